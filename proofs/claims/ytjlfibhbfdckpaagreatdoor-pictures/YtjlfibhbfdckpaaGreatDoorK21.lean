/- Texts of the proof, one behind the other: DkO. -/
import Derived.Test.YtjlfibhbfdckpaaGreatDoorK07
import Derived.Test.YtjlfibhbfdckpaaGreatDoorK20
/- The program's desk: Scroll, Fill, Shape. -/
namespace Go.Proofs.YtjlfibhbfdckpaaGreatDoor
open Go.RowKit
attribute [local go_sem ↓] Go.wp_at_zero Go.wp_at_succ
set_option maxHeartbeats 1000000 in
theorem wScroll (v : Wn) (bn cn gn : Nat) (pp : Option Addr) (sv : Value) (ks : List Value) (n : Int) (w : World) (h : WinV w v bn cn gn pp sv ks) :
    Calls Tryz.prog 88 #[.pointer (some ⟨bn, 0, none⟩), .int .i64 n] w fun e w' => e = .returned (.tuple #[]) ∧ GrAt w' cn gn v.W v.H (v.H * v.W) (scrollG 0 ((v.H : Int) - 1) n Pn.plain v.G) ∧ Keep (fun i => i = gn) w w' := by
  have HV : Hid (WinV w v bn cn gn pp sv ks) := h
  have f5 := h.f5
  have h1 := h.gr.h1
  have h2 := h.gr.h2
  have hs : IntKind.i64.wrap ((v.H : Int) - 1) = (v.H : Int) - 1 := wrap_id _ (by omega) (by omega)
  have hd : GrAt w.drew cn gn v.W v.H (v.H * v.W) v.G := h.gr.same rfl rfl
  have Hh : Hid (Calls Tryz.prog 127 #[.pointer (some ⟨cn, 0, none⟩)] w.drew fun e w' => e = .returned (.int .i64 v.H) ∧ w' = w.drew) := pHeight _ _ _ _ _ _ _ hd
  have Hs : Hid (Calls Tryz.prog 141 #[.pointer (some ⟨cn, 0, none⟩), .int .i64 0, .int .i64 ((v.H : Int) - 1), .int .i64 n, Pn.plain.agg] w.drew fun e w' => e = .returned (.tuple #[]) ∧ GrAt w' cn gn v.W v.H (v.H * v.W) (scrollG 0 ((v.H : Int) - 1) n Pn.plain v.G) ∧ Keep (fun i => i = gn) w w') :=
    (pScrollG cn gn v.W v.H _ v.G 0 ((v.H : Int) - 1) n Pn.plain _ hd (by omega) (by omega) (by omega)).mono (fun e w' ⟨a, b, c⟩ => ⟨a, b, ⟨c.os, c.tape, c.output, c.size, c.block⟩⟩)
  clear h hd
  go_enter Tryz.func88, Tryz.ntmps88
  go_wp2_with fail
  go_region_with (first | (go_at_call 127; refine Hh.out.mono ?_; rintro e wb ⟨rfl, hwb⟩; subst hwb) | (go_at_call 141; refine Hs.out.mono ?_; rintro e wb ⟨rfl, G2, K2⟩; have HG2 : Hid (GrAt wb cn gn v.W v.H (v.H * v.W) (scrollG 0 ((v.H : Int) - 1) n Pn.plain v.G)) := G2; clear G2))
  all_goals
    go_wp2_with fail
    go_end0
    exact ⟨rfl, HG2.out, K2⟩
/-- The lines of a rectangle, up to one. -/
def fillJ (W : Nat) (x y ww hh : Int) (p : Pn) (G : Nat → Nat → Cel) : Nat → Nat → Nat → Cel
  | 0 => G
  | j + 1 => if y ≤ j ∧ (j : Int) < y + hh then eraseX W x (x + ww) j p (fillJ W x y ww hh p G j) else fillJ W x y ww hh p G j
theorem fillJ_same {W : Nat} {x y ww hh : Int} {p : Pn} {G : Nat → Nat → Cel} {a : Nat} : ∀ {b : Nat}, a ≤ b → (∀ j : Nat, a ≤ j → j < b → ¬ (y ≤ j ∧ (j : Int) < y + hh)) → fillJ W x y ww hh p G b = fillJ W x y ww hh p G a := by
  intro b
  induction b with
  | zero => intro h _; obtain rfl : a = 0 := by omega
            rfl
  | succ b ih =>
    intro h hn
    by_cases e : a = b + 1
    · rw [e]
    · have h1 := hn b (by omega) (by omega)
      show (if _ then _ else _) = _
      rw [if_neg h1]
      exact ih (by omega) (fun j hj hb => hn j hj (by omega))
section
variable {M : Mm} {L : List Wn} {last : Int} {N : Nat} {s : Rs} {t : Pt}
theorem kScroll (ok : DOk L last) (w : World) (h : DkAt w M L last N s t) (v : Wn) (hv : v ∈ L) (n : Int) :
    Calls Tryz.prog 35 #[.pointer (some ⟨M.t 0, 0, none⟩), .int .i64 v.n, .int .i64 n] w (DPost M L (updL L v.n (fun u => { u with G := scrollG 0 ((v.H : Int) - 1) n Pn.plain v.G })) last N s t w (.int .i64 0)) := by
  have HD : Hid (DkAt w M L last N s t) := h
  have hf := M.fnd_in hv
  have h1 := (h.win v hv).gr.h1
  clear h
  go_enter Tryz.func35, Tryz.ntmps35
  go_wp2_with (first | (go_at_call 75; refine (kFind ok _ HD.out _).mono ?_; rintro e w' ⟨rfl, hw'⟩; replace hw' := hw'.symm; subst hw'))
  go_at_call 88
  refine (wScroll v _ _ _ _ _ _ n _ (HD.out.win v hv)).mono ?_
  rintro e wc ⟨rfl, G1, K1⟩
  have HP : Hid (DPost M L (updL L v.n (fun u => { u with G := scrollG 0 ((v.H : Int) - 1) n Pn.plain v.G })) last N s t w (.int .i64 0) (.returned (.int .i64 0)) wc) := HD.out.setG ok hv _ ((HD.out.win v hv).wf.scroll 0 _ n _ (by omega) (by omega)) G1 K1 (.int .i64 0)
  clear G1 K1 HD
  go_wp2_with fail
  go_ret
  exact HP.out
theorem kScrollNo (ok : DOk L last) (w : World) (h : DkAt w M L last N s t) (n k : Int) (hn : hasN L n = false) :
    Calls Tryz.prog 35 #[.pointer (some ⟨M.t 0, 0, none⟩), .int .i64 n, .int .i64 k] w fun e w' => e = .returned (.int .i64 1) ∧ w' = w := by
  have HD : Hid (DkAt w M L last N s t) := h
  have hf := M.fnd_no hn
  clear h
  go_enter Tryz.func35, Tryz.ntmps35
  go_wp2_with (first | (go_at_call 75; refine (kFind ok _ HD.out _).mono ?_; rintro e w' ⟨rfl, hw'⟩; replace hw' := hw'.symm; subst hw'))
  go_ret
  exact ⟨rfl, rfl⟩
end
theorem fillJ_wf {W H : Nat} {x y ww hh : Int} {p : Pn} {G : Nat → Nat → Cel} (h : Wf W H G) : ∀ j, Wf W H (fillJ W x y ww hh p G j) := by
  intro j
  induction j with
  | zero => exact h
  | succ j ih =>
    show Wf W H (if _ then _ else _)
    split
    · exact ih.wrWhole (fun _ _ _ _ _ => ⟨rfl, by show Wd.wd 32 = 1; decide⟩)
    · exact ih
set_option maxHeartbeats 2000000 in
theorem wFill (v : Wn) (bn cn gn : Nat) (pp : Option Addr) (sv : Value) (ks : List Value) (x y ww hh : Int) (p : Pn) (w : World) (h : WinV w v bn cn gn pp sv ks) (hbg : bn ≠ gn) (hx : -1000 ≤ x ∧ x ≤ 1000 ∧ -1000 ≤ y ∧ y ≤ 1000) (hw : 0 ≤ ww ∧ ww ≤ 1000 ∧ 0 ≤ hh ∧ hh ≤ 1000) :
    Calls Tryz.prog 85 #[.pointer (some ⟨bn, 0, none⟩), .int .i64 x, .int .i64 y, .int .i64 ww, .int .i64 hh, p.agg] w fun e w' => e = .returned (.tuple #[]) ∧ GrAt w' cn gn v.W v.H (v.H * v.W) (fillJ v.W x y ww hh p v.G v.H) ∧ Keep (fun i => i = gn) w w' := by
  have HV : Hid (WinV w v bn cn gn pp sv ks) := h
  have hb1 : Below w.heap.size w (w.alloc (.cells #[.int .i64 p.f, .int .i64 p.b, .bool p.bo, .bool p.un, .bool p.re] 33)) := (Below.refl _ _).alloc (Nat.le_refl _) _
  have P1 := pen_new w p 33
  have HVa : Hid (WinV (w.alloc (.cells #[.int .i64 p.f, .int .i64 p.b, .bool p.bo, .bool p.un, .bool p.re] 33)) v bn cn gn pp sv ks) := h.same (hb1.block _ h.lt) (hb1.block _ h.gr.lt) (hb1.block _ h.gr.glt) (fun i hi => hb1.block _ (ownsRow_lt h.row hi).1)
  have f5 := HVa.out.f5
  have lb := h.lt
  have lg := h.gr.glt
  have h1 := h.gr.h1
  have h2 := h.gr.h2
  have sx : IntKind.i64.wrap (x + ww) = x + ww := wrap_id _ (by omega) (by omega)
  have sy : IntKind.i64.wrap (y + hh) = y + hh := wrap_id _ (by omega) (by omega)
  clear h
  go_enter Tryz.func85, Tryz.ntmps85
  go_wp2_with (first | (go_at_call 127; refine (pHeight _ _ _ _ _ _ _ HVa.out.gr).mono ?_; rintro e w' ⟨rfl, hw'⟩; replace hw' := hw'.symm; subst hw') | (go_at_call 138; refine (pLeast _ _ _).mono ?_; rintro e w' ⟨rfl, hw'⟩; replace hw' := hw'.symm; subst hw') | (go_at_call 139; refine (pGreatest _ _ _).mono ?_; rintro e w' ⟨rfl, hw'⟩; replace hw' := hw'.symm; subst hw'))
  generalize w.alloc (.cells #[.int .i64 p.f, .int .i64 p.b, .bool p.bo, .bool p.un, .bool p.re] 33) = wa at *
  obtain ⟨l0, hl0, hl0'⟩ : ∃ l0 : Nat, greatestI y 0 = l0 ∧ (∀ j : Nat, j < l0 → ¬ y ≤ j) := ⟨(greatestI y 0).toNat, by unfold greatestI; split <;> omega, fun j hj => by unfold greatestI at hj; split at hj <;> omega⟩
  obtain ⟨en, hen⟩ : ∃ en : Int, leastI (y + hh) v.H = en := ⟨_, rfl⟩
  have hen1 : en ≤ v.H ∧ en ≤ y + hh ∧ (∀ j : Nat, en ≤ j → j < v.H → ¬ (j : Int) < y + hh) := by
    rw [← hen]; unfold leastI
    split
    · exact ⟨by omega, by omega, fun j _ _ => by omega⟩
    · exact ⟨by omega, by omega, fun j _ _ => by omega⟩
  rw [hl0, hen]
  have HE : Hid (en ≤ v.H ∧ en ≤ y + hh ∧ (∀ j : Nat, en ≤ j → j < v.H → ¬ (j : Int) < y + hh)) := hen1
  have HL0 : Hid ((∀ j : Nat, j < l0 → ¬ y ≤ j) ∧ y ≤ l0) := ⟨hl0', by rw [← hl0]; unfold greatestI; split <;> omega⟩
  have hl01 : l0 ≤ 1000 := by have : greatestI y 0 ≤ 1000 := by unfold greatestI; split <;> omega
                              omega
  clear hen1 hl0' hl0 hen
  have Hfin : Hid (∀ k : Nat, (k = l0 ∨ k ≤ v.H) → en ≤ k → fillJ v.W x y ww hh p v.G v.H = fillJ v.W x y ww hh p v.G k) := fun k hk he => by
    by_cases hkH : k ≤ v.H
    · exact fillJ_same hkH (fun j hj hj2 hc => HE.out.2.2 j (by omega) hj2 hc.2)
    · exact (fillJ_same (a := v.H) (b := k) (by omega) (fun j _ hj2 hc => HL0.out.1 j (by omega) hc.1)).symm
  have Hst : Hid (fillJ v.W x y ww hh p v.G l0 = v.G) := fillJ_same (a := 0) (by omega) (fun j _ hj hc => HL0.out.1 j hj hc.1)
  go_loopw [13] (fun i w' => ∃ k : Nat, l0 ≤ k ∧ (k = l0 ∨ k ≤ v.H) ∧ i = .int .i64 k ∧ GrAt w' cn gn v.W v.H (v.H * v.W) (fillJ v.W x y ww hh p v.G k) ∧ Keep (fun i => i = gn) wa w') (fun i _ => 2000 - (intOf i).toNat)
  case atStart => exact ⟨l0, by omega, .inl rfl, rfl, by rw [Hst.out]; exact HVa.out.gr, Keep.refl _ _⟩
  case round =>
    obtain ⟨k, hk1, hk2, rfl, hG, hK⟩ := hrel
    have HG : Hid (GrAt wr cn gn v.W v.H (v.H * v.W) (fillJ v.W x y ww hh p v.G k)) := hG
    have HK : Hid (Keep (fun i => i = gn) wa wr) := hK
    have g5 : wr.cell? ⟨bn, 5, none⟩ = some (.pointer (some ⟨cn, 0, none⟩)) := by rw [cell_same (hK.block _ HVa.out.lt hbg)]; exact f5
    have hPw : wr.heap[w.heap.size]? = wa.heap[w.heap.size]? := hK.block _ P1.lt (by omega)
    obtain ⟨p0, p1, p2, p3, p4⟩ := P1.same hPw
    clear hG hK hPw
    by_cases hlt : (k : Int) < en
    · have hkH : k < v.H := by have := HE.out.1; omega
      have hin : y ≤ k ∧ (k : Int) < y + hh := ⟨by have := HL0.out.2; omega, by have := HE.out.2.1; omega⟩
      have He : Hid (fillJ v.W x y ww hh p v.G (k + 1) = eraseX v.W x (x + ww) k p (fillJ v.W x y ww hh p v.G k)) := if_pos hin
      have hd : GrAt wr.drew cn gn v.W v.H (v.H * v.W) (fillJ v.W x y ww hh p v.G k) := HG.out.same rfl rfl
      have Her : Hid (Calls Tryz.prog 140 #[.pointer (some ⟨cn, 0, none⟩), .int .i64 x, .int .i64 (x + ww), .int .i64 k, p.agg] wr.drew fun e w' => e = .returned (.tuple #[]) ∧ GrAt w' cn gn v.W v.H (v.H * v.W) (fillJ v.W x y ww hh p v.G (k + 1)) ∧ Keep (fun i => i = gn) wa w') := by
        show Calls _ _ _ _ _
        rw [He.out]
        exact (pErase cn gn v.W v.H _ _ x (x + ww) k p _ hd (fillJ_wf HV.out.wf k) hkH).mono (fun e w' ⟨a, b, c⟩ => ⟨a, b, HK.out.trans ⟨c.os, c.tape, c.output, c.size, c.block⟩ (fun _ _ h => h)⟩)
      clear hd He
      go_wp2_with fail
      go_region_with (first | (go_at_call 140; refine Her.out.mono ?_; rintro e wb ⟨rfl, G2, K2⟩; have HG2 : Hid (GrAt wb cn gn v.W v.H (v.H * v.W) (fillJ v.W x y ww hh p v.G (k + 1))) := G2; clear G2))
      all_goals
        go_wp2_with fail
        exact ⟨⟨k + 1, by omega, .inr (by omega), by simp, HG2.out, K2⟩, by simp [intOf]; omega⟩
    · have Hf : Hid (fillJ v.W x y ww hh p v.G v.H = fillJ v.W x y ww hh p v.G k) := Hfin.out k hk2 (by omega)
      go_wp2_with fail
      go_end0
      refine ⟨rfl, by rw [Hf.out]; exact HG.out, (Keep.below _ hb1).trans HK.out (fun _ _ h => h)⟩
/-- May a rectangle be? -/
def rectB (x y : Int) : Bool := Wd.inB x 0 1000 && Wd.inB y 0 1000
theorem rectB_iff {x y : Int} : rectB x y = true ↔ 0 ≤ x ∧ x ≤ 1000 ∧ 0 ≤ y ∧ y ≤ 1000 := by simp [rectB, Wd.inB, and_assoc]
theorem pRect (x y : Int) (w : World) :
    Calls Tryz.prog 84 #[.int .i64 x, .int .i64 y] w fun e w' => e = .returned (.bool (rectB x y)) ∧ w' = w := by
  cases h1 : Wd.inB x 0 1000 <;> cases h2 : Wd.inB y 0 1000
  all_goals
    go_enter Tryz.func84, Tryz.ntmps84
    go_wp2_with (first | (go_at_call 107; refine (pWithin _ _ _ _).mono ?_; rintro e w' ⟨rfl, hw'⟩; replace hw' := hw'.symm; subst hw'))
    go_ret
    exact ⟨by simp [rectB, h1, h2], rfl⟩
/-- What is wrong with a rectangle. -/
def fillE (L : List Wn) (n x y ww hh : Int) (p : Pn) : Int := if hasN L n = false then 1 else if placeB x y = false then 4 else if rectB ww hh = false then 3 else if penB p = false then 8 else 0
section
variable {M : Mm} {L : List Wn} {last : Int} {N : Nat} {s : Rs} {t : Pt}
set_option maxHeartbeats 2000000 in
theorem kFillNo (ok : DOk L last) (w : World) (h : DkAt w M L last N s t) (n x y ww hh : Int) (p : Pn) (he : fillE L n x y ww hh p ≠ 0) :
    Calls Tryz.prog 33 #[.pointer (some ⟨M.t 0, 0, none⟩), .int .i64 n, .int .i64 x, .int .i64 y, .int .i64 ww, .int .i64 hh, p.agg] w fun e w' => e = .returned (.int .i64 (fillE L n x y ww hh p)) ∧ Below w.heap.size w w' := by
  have HD : Hid (DkAt w M L last N s t) := h
  clear h
  have hb1 : Below w.heap.size w (w.alloc (.cells #[.int .i64 p.f, .int .i64 p.b, .bool p.bo, .bool p.un, .bool p.re] 33)) := (Below.refl _ _).alloc (Nat.le_refl _) _
  have HDa : Hid (DkAt (w.alloc (.cells #[.int .i64 p.f, .int .i64 p.b, .bool p.bo, .bool p.un, .bool p.re] 33)) M L last N s t) := HD.out.below hb1
  unfold fillE at he ⊢
  by_cases h1 : hasN L n = false
  · rw [if_pos h1]
    have hf := M.fnd_no h1
    clear he
    go_enter Tryz.func33, Tryz.ntmps33
    go_wp2_with (first | (go_at_call 75; refine (kFind ok _ HDa.out _).mono ?_; rintro e w' ⟨rfl, hw'⟩; replace hw' := hw'.symm; subst hw'))
    go_ret
    exact ⟨rfl, hb1⟩
  rw [if_neg h1] at he ⊢
  obtain ⟨v, hv, rfl⟩ := hasN_iff.1 (by simpa using h1)
  have hf := M.fnd_in hv
  clear h1
  by_cases h2 : placeB x y = false
  · rw [if_pos h2]
    clear he
    go_enter Tryz.func33, Tryz.ntmps33
    go_wp2_with (first | (go_at_call 75; refine (kFind ok _ HDa.out _).mono ?_; rintro e w' ⟨rfl, hw'⟩; replace hw' := hw'.symm; subst hw') | (go_at_call 76; refine (pPlace _ _ _).mono ?_; rintro e w' ⟨rfl, hw'⟩; replace hw' := hw'.symm; subst hw'))
    go_ret
    exact ⟨rfl, hb1⟩
  rw [if_neg h2] at he ⊢
  have h2' : placeB x y = true := by simpa using h2
  clear h2
  by_cases h3 : rectB ww hh = false
  · rw [if_pos h3]
    clear he
    go_enter Tryz.func33, Tryz.ntmps33
    go_wp2_with (first | (go_at_call 75; refine (kFind ok _ HDa.out _).mono ?_; rintro e w' ⟨rfl, hw'⟩; replace hw' := hw'.symm; subst hw') | (go_at_call 76; refine (pPlace _ _ _).mono ?_; rintro e w' ⟨rfl, hw'⟩; replace hw' := hw'.symm; subst hw') | (go_at_call 84; refine (pRect _ _ _).mono ?_; rintro e w' ⟨rfl, hw'⟩; replace hw' := hw'.symm; subst hw'))
    go_ret
    exact ⟨rfl, hb1⟩
  rw [if_neg h3] at he ⊢
  have h3' : rectB ww hh = true := by simpa using h3
  clear h3
  by_cases h4 : penB p = false
  · rw [if_pos h4]
    clear he
    obtain ⟨p0, p1, p2, p3, p4⟩ := pen_new w p 33
    go_enter Tryz.func33, Tryz.ntmps33
    go_wp2_with (first | (go_at_call 75; refine (kFind ok _ HDa.out _).mono ?_; rintro e w' ⟨rfl, hw'⟩; replace hw' := hw'.symm; subst hw') | (go_at_call 76; refine (pPlace _ _ _).mono ?_; rintro e w' ⟨rfl, hw'⟩; replace hw' := hw'.symm; subst hw') | (go_at_call 84; refine (pRect _ _ _).mono ?_; rintro e w' ⟨rfl, hw'⟩; replace hw' := hw'.symm; subst hw'))
    go_at_call 77
    refine (pPen p _).mono ?_
    rw [h4]
    rintro e wb ⟨rfl, hbb⟩
    have HB : Hid (Below w.heap.size w wb) := hb1.trans (hbb.mono hb1.size)
    clear p0 p1 p2 p3 p4 hbb
    go_wp2_with fail
    go_ret
    exact ⟨rfl, HB.out⟩
  · rw [if_neg h4] at he; omega
set_option maxHeartbeats 2000000 in
theorem kFill (ok : DOk L last) (w : World) (h : DkAt w M L last N s t) (v : Wn) (hv : v ∈ L) (x y ww hh : Int) (p : Pn) (hpl : placeB x y = true) (hrc : rectB ww hh = true) (hpn : penB p = true) :
    Calls Tryz.prog 33 #[.pointer (some ⟨M.t 0, 0, none⟩), .int .i64 v.n, .int .i64 x, .int .i64 y, .int .i64 ww, .int .i64 hh, p.agg] w (DPost M L (updL L v.n (fun u => { u with G := fillJ v.W x y ww hh p v.G v.H })) last N s t w (.int .i64 0)) := by
  have HD : Hid (DkAt w M L last N s t) := h
  have hf := M.fnd_in hv
  have hx := placeB_iff.1 hpl
  have hr := rectB_iff.1 hrc
  clear h
  have hb1 : Below w.heap.size w (w.alloc (.cells #[.int .i64 p.f, .int .i64 p.b, .bool p.bo, .bool p.un, .bool p.re] 33)) := (Below.refl _ _).alloc (Nat.le_refl _) _
  have HDa : Hid (DkAt (w.alloc (.cells #[.int .i64 p.f, .int .i64 p.b, .bool p.bo, .bool p.un, .bool p.re] 33)) M L last N s t) := HD.out.below hb1
  have P1 := pen_new w p 33
  obtain ⟨p0, p1, p2, p3, p4⟩ := id P1
  go_enter Tryz.func33, Tryz.ntmps33
  go_wp2_with (first | (go_at_call 75; refine (kFind ok _ HDa.out _).mono ?_; rintro e w' ⟨rfl, hw'⟩; replace hw' := hw'.symm; subst hw') | (go_at_call 76; refine (pPlace _ _ _).mono ?_; rintro e w' ⟨rfl, hw'⟩; replace hw' := hw'.symm; subst hw') | (go_at_call 84; refine (pRect _ _ _).mono ?_; rintro e w' ⟨rfl, hw'⟩; replace hw' := hw'.symm; subst hw'))
  go_at_call 77
  refine (pPen p _).mono ?_
  rw [hpn]
  rintro e wb ⟨rfl, hbb⟩
  have HDb : Hid (DkAt wb M L last N s t) := HDa.out.below hbb
  have P2 := P1.same (hbb.block _ P1.lt)
  have K2 : Hid (Below w.heap.size w wb) := hb1.trans (hbb.mono hb1.size)
  clear p0 p1 p2 p3 p4 P1 hbb HDa hb1
  obtain ⟨p0, p1, p2, p3, p4⟩ := P2
  go_wp2_with fail
  go_at_call 85
  refine (wFill v _ _ _ _ _ _ x y ww hh p _ (HDb.out.win v hv) (HDb.out.ne_bg hv) hx hr).mono ?_
  rintro e wc ⟨rfl, G1, K1⟩
  have HP : Hid (DPost M L (updL L v.n (fun u => { u with G := fillJ v.W x y ww hh p v.G v.H })) last N s t w (.int .i64 0) (.returned (.int .i64 0)) wc) := by
    obtain ⟨M', e1, D1, t1, k1, o1⟩ := HDb.out.setG ok hv _ (fillJ_wf (HDb.out.win v hv).wf v.H) G1 K1 (.int .i64 0)
    exact ⟨M', e1, D1, t1, (Keep.below _ K2.out).trans k1 (fun _ _ h => h), fun i hi => (o1 i hi).imp id (fun h => by have := K2.out.size; omega)⟩
  clear G1 K1 HDb K2 p0 p1 p2 p3 p4
  go_wp2_with fail
  go_ret
  exact HP.out
end
end Go.Proofs.YtjlfibhbfdckpaaGreatDoor
