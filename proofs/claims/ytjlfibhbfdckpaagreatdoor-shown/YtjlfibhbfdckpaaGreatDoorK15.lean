/- Texts of the proof, one behind the other: DkJ, DkO, DkT, RdH, PsB, PuP. -/
import Derived.Test.YtjlfibhbfdckpaaGreatDoorK02
import Derived.Test.YtjlfibhbfdckpaaGreatDoorK08
import Derived.Test.YtjlfibhbfdckpaaGreatDoorK10
import Derived.Test.YtjlfibhbfdckpaaGreatDoorK12
import Derived.Test.YtjlfibhbfdckpaaGreatDoorK14
import Derived.Deep.RegionWith
/- The program's calls that fail: Write, Cell; a nil desk. -/
namespace Go.Proofs.YtjlfibhbfdckpaaGreatDoor
open Go.RowKit
attribute [local go_sem ↓] Go.wp_at_zero Go.wp_at_succ
/-- What is wrong with a text. -/
def writeE (L : List Wn) (n x y : Int) (b : ByteArray) (p : Pn) : Int := if hasN L n = false then 1 else if placeB x y = false then 4 else if 200 < b.size then 7 else if penB p = false then 8 else 0
section
variable {M : Mm} {L : List Wn} {last : Int} {N : Nat} {s : Rs} {t : Pt}
set_option maxHeartbeats 2000000 in
theorem kWriteNo (ok : DOk L last) (w : World) (h : DkAt w M L last N s t) (n x y : Int) (b : ByteArray) (p : Pn) (he : writeE L n x y b p ≠ 0) :
    Calls Tryz.prog 31 #[.pointer (some ⟨M.t 0, 0, none⟩), .int .i64 n, .int .i64 x, .int .i64 y, .string b, p.agg] w fun e w' => e = .returned (.int .i64 (writeE L n x y b p)) ∧ Below w.heap.size w w' := by
  have HD : Hid (DkAt w M L last N s t) := h
  clear h
  have hb1 : Below w.heap.size w (w.alloc (.cells #[.int .i64 p.f, .int .i64 p.b, .bool p.bo, .bool p.un, .bool p.re] 33)) := (Below.refl _ _).alloc (Nat.le_refl _) _
  have HDa : Hid (DkAt (w.alloc (.cells #[.int .i64 p.f, .int .i64 p.b, .bool p.bo, .bool p.un, .bool p.re] 33)) M L last N s t) := HD.out.below hb1
  unfold writeE at he ⊢
  by_cases h1 : hasN L n = false
  · rw [if_pos h1]
    have hf := M.fnd_no h1
    clear he
    go_enter Tryz.func31, Tryz.ntmps31
    go_wp2_with (first | (go_at_call 75; refine (kFind ok _ HDa.out _).mono ?_; rintro e w' ⟨rfl, hw'⟩; replace hw' := hw'.symm; subst hw'))
    go_ret
    exact ⟨rfl, hb1⟩
  rw [if_neg h1] at he ⊢
  obtain ⟨v, hv, rfl⟩ := hasN_iff.1 (by simpa using h1)
  have hf := M.fnd_in hv
  clear h1
  by_cases h2 : placeB x y = false
  · rw [if_pos h2]
    clear he
    go_enter Tryz.func31, Tryz.ntmps31
    go_wp2_with (first | (go_at_call 75; refine (kFind ok _ HDa.out _).mono ?_; rintro e w' ⟨rfl, hw'⟩; replace hw' := hw'.symm; subst hw') | (go_at_call 76; refine (pPlace _ _ _).mono ?_; rintro e w' ⟨rfl, hw'⟩; replace hw' := hw'.symm; subst hw'))
    go_ret
    exact ⟨rfl, hb1⟩
  rw [if_neg h2] at he ⊢
  have h2' : placeB x y = true := by simpa using h2
  clear h2
  by_cases h3 : 200 < b.size
  · rw [if_pos h3]
    have h3' : (200 : Int) < (b.size : Int) := by omega
    clear he
    go_enter Tryz.func31, Tryz.ntmps31
    go_wp2_with (first | (go_at_call 75; refine (kFind ok _ HDa.out _).mono ?_; rintro e w' ⟨rfl, hw'⟩; replace hw' := hw'.symm; subst hw') | (go_at_call 76; refine (pPlace _ _ _).mono ?_; rintro e w' ⟨rfl, hw'⟩; replace hw' := hw'.symm; subst hw'))
    go_ret
    exact ⟨rfl, hb1⟩
  rw [if_neg h3] at he ⊢
  have h3' : ¬ (200 : Int) < (b.size : Int) := by omega
  by_cases h4 : penB p = false
  · rw [if_pos h4]
    clear he
    obtain ⟨p0, p1, p2, p3, p4⟩ := pen_new w p 33
    go_enter Tryz.func31, Tryz.ntmps31
    go_wp2_with (first | (go_at_call 75; refine (kFind ok _ HDa.out _).mono ?_; rintro e w' ⟨rfl, hw'⟩; replace hw' := hw'.symm; subst hw') | (go_at_call 76; refine (pPlace _ _ _).mono ?_; rintro e w' ⟨rfl, hw'⟩; replace hw' := hw'.symm; subst hw'))
    go_at_call 77
    refine (pPen p _).mono ?_
    rw [h4]
    rintro e wb ⟨rfl, hbb⟩
    have HB : Hid (Below w.heap.size w wb) := hb1.trans (hbb.mono hb1.size)
    clear p0 p1 p2 p3 p4 hbb
    go_wp2_with fail
    go_ret
    exact ⟨rfl, HB.out⟩
  · rw [if_neg h4] at he; omega
end
section
variable (w : World) (n x y W H : Int) (b : Bool) (m : Int) (tx : ByteArray) (p : Pn)
end
section
variable (w : World) (x y : Int)
end
end Go.Proofs.YtjlfibhbfdckpaaGreatDoor

/- The program's desk: Scroll, Fill, Shape. -/
namespace Go.Proofs.YtjlfibhbfdckpaaGreatDoor
open Go.RowKit
attribute [local go_sem ↓] Go.wp_at_zero Go.wp_at_succ
set_option maxHeartbeats 1000000 in
theorem wScroll (v : Wn) (bn cn gn : Nat) (pp : Option Addr) (sv : Value) (ks : List Value) (n : Int) (w : World) (h : WinV w v bn cn gn pp sv ks) :
    Calls Tryz.prog 88 #[.pointer (some ⟨bn, 0, none⟩), .int .i64 n] w fun e w' => e = .returned (.tuple #[]) ∧ GrAt w' cn gn v.W v.H (v.H * v.W) (scrollG 0 ((v.H : Int) - 1) n Pn.plain v.G) ∧ Keep (fun i => i = gn) w w' := by
  have HV : Hid (WinV w v bn cn gn pp sv ks) := h
  have f5 := h.f5
  have h1 := h.gr.h1
  have h2 := h.gr.h2
  have hs : IntKind.i64.wrap ((v.H : Int) - 1) = (v.H : Int) - 1 := wrap_id _ (by omega) (by omega)
  have hd : GrAt w.drew cn gn v.W v.H (v.H * v.W) v.G := h.gr.same rfl rfl
  have Hh : Hid (Calls Tryz.prog 127 #[.pointer (some ⟨cn, 0, none⟩)] w.drew fun e w' => e = .returned (.int .i64 v.H) ∧ w' = w.drew) := pHeight _ _ _ _ _ _ _ hd
  have Hs : Hid (Calls Tryz.prog 141 #[.pointer (some ⟨cn, 0, none⟩), .int .i64 0, .int .i64 ((v.H : Int) - 1), .int .i64 n, Pn.plain.agg] w.drew fun e w' => e = .returned (.tuple #[]) ∧ GrAt w' cn gn v.W v.H (v.H * v.W) (scrollG 0 ((v.H : Int) - 1) n Pn.plain v.G) ∧ Keep (fun i => i = gn) w w') :=
    (pScrollG cn gn v.W v.H _ v.G 0 ((v.H : Int) - 1) n Pn.plain _ hd (by omega) (by omega) (by omega)).mono (fun e w' ⟨a, b, c⟩ => ⟨a, b, ⟨c.os, c.tape, c.output, c.size, c.block⟩⟩)
  clear h hd
  go_enter Tryz.func88, Tryz.ntmps88
  go_wp2_with fail
  go_region_with (first | (go_at_call 127; refine Hh.out.mono ?_; rintro e wb ⟨rfl, hwb⟩; subst hwb) | (go_at_call 141; refine Hs.out.mono ?_; rintro e wb ⟨rfl, G2, K2⟩; have HG2 : Hid (GrAt wb cn gn v.W v.H (v.H * v.W) (scrollG 0 ((v.H : Int) - 1) n Pn.plain v.G)) := G2; clear G2))
  all_goals
    go_wp2_with fail
    go_end0
    exact ⟨rfl, HG2.out, K2⟩
/-- The lines of a rectangle, up to one. -/
def fillJ (W : Nat) (x y ww hh : Int) (p : Pn) (G : Nat → Nat → Cel) : Nat → Nat → Nat → Cel
  | 0 => G
  | j + 1 => if y ≤ j ∧ (j : Int) < y + hh then eraseX W x (x + ww) j p (fillJ W x y ww hh p G j) else fillJ W x y ww hh p G j
theorem fillJ_same {W : Nat} {x y ww hh : Int} {p : Pn} {G : Nat → Nat → Cel} {a : Nat} : ∀ {b : Nat}, a ≤ b → (∀ j : Nat, a ≤ j → j < b → ¬ (y ≤ j ∧ (j : Int) < y + hh)) → fillJ W x y ww hh p G b = fillJ W x y ww hh p G a := by
  intro b
  induction b with
  | zero => intro h _; obtain rfl : a = 0 := by omega
            rfl
  | succ b ih =>
    intro h hn
    by_cases e : a = b + 1
    · rw [e]
    · have h1 := hn b (by omega) (by omega)
      show (if _ then _ else _) = _
      rw [if_neg h1]
      exact ih (by omega) (fun j hj hb => hn j hj (by omega))
section
variable {M : Mm} {L : List Wn} {last : Int} {N : Nat} {s : Rs} {t : Pt}
theorem kScroll (ok : DOk L last) (w : World) (h : DkAt w M L last N s t) (v : Wn) (hv : v ∈ L) (n : Int) :
    Calls Tryz.prog 35 #[.pointer (some ⟨M.t 0, 0, none⟩), .int .i64 v.n, .int .i64 n] w (DPost M L (updL L v.n (fun u => { u with G := scrollG 0 ((v.H : Int) - 1) n Pn.plain v.G })) last N s t w (.int .i64 0)) := by
  have HD : Hid (DkAt w M L last N s t) := h
  have hf := M.fnd_in hv
  have h1 := (h.win v hv).gr.h1
  clear h
  go_enter Tryz.func35, Tryz.ntmps35
  go_wp2_with (first | (go_at_call 75; refine (kFind ok _ HD.out _).mono ?_; rintro e w' ⟨rfl, hw'⟩; replace hw' := hw'.symm; subst hw'))
  go_at_call 88
  refine (wScroll v _ _ _ _ _ _ n _ (HD.out.win v hv)).mono ?_
  rintro e wc ⟨rfl, G1, K1⟩
  have HP : Hid (DPost M L (updL L v.n (fun u => { u with G := scrollG 0 ((v.H : Int) - 1) n Pn.plain v.G })) last N s t w (.int .i64 0) (.returned (.int .i64 0)) wc) := HD.out.setG ok hv _ ((HD.out.win v hv).wf.scroll 0 _ n _ (by omega) (by omega)) G1 K1 (.int .i64 0)
  clear G1 K1 HD
  go_wp2_with fail
  go_ret
  exact HP.out
theorem kScrollNo (ok : DOk L last) (w : World) (h : DkAt w M L last N s t) (n k : Int) (hn : hasN L n = false) :
    Calls Tryz.prog 35 #[.pointer (some ⟨M.t 0, 0, none⟩), .int .i64 n, .int .i64 k] w fun e w' => e = .returned (.int .i64 1) ∧ w' = w := by
  have HD : Hid (DkAt w M L last N s t) := h
  have hf := M.fnd_no hn
  clear h
  go_enter Tryz.func35, Tryz.ntmps35
  go_wp2_with (first | (go_at_call 75; refine (kFind ok _ HD.out _).mono ?_; rintro e w' ⟨rfl, hw'⟩; replace hw' := hw'.symm; subst hw'))
  go_ret
  exact ⟨rfl, rfl⟩
end
theorem fillJ_wf {W H : Nat} {x y ww hh : Int} {p : Pn} {G : Nat → Nat → Cel} (h : Wf W H G) : ∀ j, Wf W H (fillJ W x y ww hh p G j) := by
  intro j
  induction j with
  | zero => exact h
  | succ j ih =>
    show Wf W H (if _ then _ else _)
    split
    · exact ih.wrWhole (fun _ _ _ _ _ => ⟨rfl, by show Wd.wd 32 = 1; decide⟩)
    · exact ih
set_option maxHeartbeats 2000000 in
theorem wFill (v : Wn) (bn cn gn : Nat) (pp : Option Addr) (sv : Value) (ks : List Value) (x y ww hh : Int) (p : Pn) (w : World) (h : WinV w v bn cn gn pp sv ks) (hbg : bn ≠ gn) (hx : -1000 ≤ x ∧ x ≤ 1000 ∧ -1000 ≤ y ∧ y ≤ 1000) (hw : 0 ≤ ww ∧ ww ≤ 1000 ∧ 0 ≤ hh ∧ hh ≤ 1000) :
    Calls Tryz.prog 85 #[.pointer (some ⟨bn, 0, none⟩), .int .i64 x, .int .i64 y, .int .i64 ww, .int .i64 hh, p.agg] w fun e w' => e = .returned (.tuple #[]) ∧ GrAt w' cn gn v.W v.H (v.H * v.W) (fillJ v.W x y ww hh p v.G v.H) ∧ Keep (fun i => i = gn) w w' := by
  have HV : Hid (WinV w v bn cn gn pp sv ks) := h
  have hb1 : Below w.heap.size w (w.alloc (.cells #[.int .i64 p.f, .int .i64 p.b, .bool p.bo, .bool p.un, .bool p.re] 33)) := (Below.refl _ _).alloc (Nat.le_refl _) _
  have P1 := pen_new w p 33
  have HVa : Hid (WinV (w.alloc (.cells #[.int .i64 p.f, .int .i64 p.b, .bool p.bo, .bool p.un, .bool p.re] 33)) v bn cn gn pp sv ks) := h.same (hb1.block _ h.lt) (hb1.block _ h.gr.lt) (hb1.block _ h.gr.glt) (fun i hi => hb1.block _ (ownsRow_lt h.row hi).1)
  have f5 := HVa.out.f5
  have lb := h.lt
  have lg := h.gr.glt
  have h1 := h.gr.h1
  have h2 := h.gr.h2
  have sx : IntKind.i64.wrap (x + ww) = x + ww := wrap_id _ (by omega) (by omega)
  have sy : IntKind.i64.wrap (y + hh) = y + hh := wrap_id _ (by omega) (by omega)
  clear h
  go_enter Tryz.func85, Tryz.ntmps85
  go_wp2_with (first | (go_at_call 127; refine (pHeight _ _ _ _ _ _ _ HVa.out.gr).mono ?_; rintro e w' ⟨rfl, hw'⟩; replace hw' := hw'.symm; subst hw') | (go_at_call 138; refine (pLeast _ _ _).mono ?_; rintro e w' ⟨rfl, hw'⟩; replace hw' := hw'.symm; subst hw') | (go_at_call 139; refine (pGreatest _ _ _).mono ?_; rintro e w' ⟨rfl, hw'⟩; replace hw' := hw'.symm; subst hw'))
  generalize w.alloc (.cells #[.int .i64 p.f, .int .i64 p.b, .bool p.bo, .bool p.un, .bool p.re] 33) = wa at *
  obtain ⟨l0, hl0, hl0'⟩ : ∃ l0 : Nat, greatestI y 0 = l0 ∧ (∀ j : Nat, j < l0 → ¬ y ≤ j) := ⟨(greatestI y 0).toNat, by unfold greatestI; split <;> omega, fun j hj => by unfold greatestI at hj; split at hj <;> omega⟩
  obtain ⟨en, hen⟩ : ∃ en : Int, leastI (y + hh) v.H = en := ⟨_, rfl⟩
  have hen1 : en ≤ v.H ∧ en ≤ y + hh ∧ (∀ j : Nat, en ≤ j → j < v.H → ¬ (j : Int) < y + hh) := by
    rw [← hen]; unfold leastI
    split
    · exact ⟨by omega, by omega, fun j _ _ => by omega⟩
    · exact ⟨by omega, by omega, fun j _ _ => by omega⟩
  rw [hl0, hen]
  have HE : Hid (en ≤ v.H ∧ en ≤ y + hh ∧ (∀ j : Nat, en ≤ j → j < v.H → ¬ (j : Int) < y + hh)) := hen1
  have HL0 : Hid ((∀ j : Nat, j < l0 → ¬ y ≤ j) ∧ y ≤ l0) := ⟨hl0', by rw [← hl0]; unfold greatestI; split <;> omega⟩
  have hl01 : l0 ≤ 1000 := by have : greatestI y 0 ≤ 1000 := by unfold greatestI; split <;> omega
                              omega
  clear hen1 hl0' hl0 hen
  have Hfin : Hid (∀ k : Nat, (k = l0 ∨ k ≤ v.H) → en ≤ k → fillJ v.W x y ww hh p v.G v.H = fillJ v.W x y ww hh p v.G k) := fun k hk he => by
    by_cases hkH : k ≤ v.H
    · exact fillJ_same hkH (fun j hj hj2 hc => HE.out.2.2 j (by omega) hj2 hc.2)
    · exact (fillJ_same (a := v.H) (b := k) (by omega) (fun j _ hj2 hc => HL0.out.1 j (by omega) hc.1)).symm
  have Hst : Hid (fillJ v.W x y ww hh p v.G l0 = v.G) := fillJ_same (a := 0) (by omega) (fun j _ hj hc => HL0.out.1 j hj hc.1)
  go_loopw [13] (fun i w' => ∃ k : Nat, l0 ≤ k ∧ (k = l0 ∨ k ≤ v.H) ∧ i = .int .i64 k ∧ GrAt w' cn gn v.W v.H (v.H * v.W) (fillJ v.W x y ww hh p v.G k) ∧ Keep (fun i => i = gn) wa w') (fun i _ => 2000 - (intOf i).toNat)
  case atStart => exact ⟨l0, by omega, .inl rfl, rfl, by rw [Hst.out]; exact HVa.out.gr, Keep.refl _ _⟩
  case round =>
    obtain ⟨k, hk1, hk2, rfl, hG, hK⟩ := hrel
    have HG : Hid (GrAt wr cn gn v.W v.H (v.H * v.W) (fillJ v.W x y ww hh p v.G k)) := hG
    have HK : Hid (Keep (fun i => i = gn) wa wr) := hK
    have g5 : wr.cell? ⟨bn, 5, none⟩ = some (.pointer (some ⟨cn, 0, none⟩)) := by rw [cell_same (hK.block _ HVa.out.lt hbg)]; exact f5
    have hPw : wr.heap[w.heap.size]? = wa.heap[w.heap.size]? := hK.block _ P1.lt (by omega)
    obtain ⟨p0, p1, p2, p3, p4⟩ := P1.same hPw
    clear hG hK hPw
    by_cases hlt : (k : Int) < en
    · have hkH : k < v.H := by have := HE.out.1; omega
      have hin : y ≤ k ∧ (k : Int) < y + hh := ⟨by have := HL0.out.2; omega, by have := HE.out.2.1; omega⟩
      have He : Hid (fillJ v.W x y ww hh p v.G (k + 1) = eraseX v.W x (x + ww) k p (fillJ v.W x y ww hh p v.G k)) := if_pos hin
      have hd : GrAt wr.drew cn gn v.W v.H (v.H * v.W) (fillJ v.W x y ww hh p v.G k) := HG.out.same rfl rfl
      have Her : Hid (Calls Tryz.prog 140 #[.pointer (some ⟨cn, 0, none⟩), .int .i64 x, .int .i64 (x + ww), .int .i64 k, p.agg] wr.drew fun e w' => e = .returned (.tuple #[]) ∧ GrAt w' cn gn v.W v.H (v.H * v.W) (fillJ v.W x y ww hh p v.G (k + 1)) ∧ Keep (fun i => i = gn) wa w') := by
        show Calls _ _ _ _ _
        rw [He.out]
        exact (pErase cn gn v.W v.H _ _ x (x + ww) k p _ hd (fillJ_wf HV.out.wf k) hkH).mono (fun e w' ⟨a, b, c⟩ => ⟨a, b, HK.out.trans ⟨c.os, c.tape, c.output, c.size, c.block⟩ (fun _ _ h => h)⟩)
      clear hd He
      go_wp2_with fail
      go_region_with (first | (go_at_call 140; refine Her.out.mono ?_; rintro e wb ⟨rfl, G2, K2⟩; have HG2 : Hid (GrAt wb cn gn v.W v.H (v.H * v.W) (fillJ v.W x y ww hh p v.G (k + 1))) := G2; clear G2))
      all_goals
        go_wp2_with fail
        exact ⟨⟨k + 1, by omega, .inr (by omega), by simp, HG2.out, K2⟩, by simp [intOf]; omega⟩
    · have Hf : Hid (fillJ v.W x y ww hh p v.G v.H = fillJ v.W x y ww hh p v.G k) := Hfin.out k hk2 (by omega)
      go_wp2_with fail
      go_end0
      refine ⟨rfl, by rw [Hf.out]; exact HG.out, (Keep.below _ hb1).trans HK.out (fun _ _ h => h)⟩
/-- May a rectangle be? -/
def rectB (x y : Int) : Bool := Wd.inB x 0 1000 && Wd.inB y 0 1000
theorem rectB_iff {x y : Int} : rectB x y = true ↔ 0 ≤ x ∧ x ≤ 1000 ∧ 0 ≤ y ∧ y ≤ 1000 := by simp [rectB, Wd.inB, and_assoc]
theorem pRect (x y : Int) (w : World) :
    Calls Tryz.prog 84 #[.int .i64 x, .int .i64 y] w fun e w' => e = .returned (.bool (rectB x y)) ∧ w' = w := by
  cases h1 : Wd.inB x 0 1000 <;> cases h2 : Wd.inB y 0 1000
  all_goals
    go_enter Tryz.func84, Tryz.ntmps84
    go_wp2_with (first | (go_at_call 107; refine (pWithin _ _ _ _).mono ?_; rintro e w' ⟨rfl, hw'⟩; replace hw' := hw'.symm; subst hw'))
    go_ret
    exact ⟨by simp [rectB, h1, h2], rfl⟩
/-- What is wrong with a rectangle. -/
def fillE (L : List Wn) (n x y ww hh : Int) (p : Pn) : Int := if hasN L n = false then 1 else if placeB x y = false then 4 else if rectB ww hh = false then 3 else if penB p = false then 8 else 0
section
variable {M : Mm} {L : List Wn} {last : Int} {N : Nat} {s : Rs} {t : Pt}
set_option maxHeartbeats 2000000 in
theorem kFillNo (ok : DOk L last) (w : World) (h : DkAt w M L last N s t) (n x y ww hh : Int) (p : Pn) (he : fillE L n x y ww hh p ≠ 0) :
    Calls Tryz.prog 33 #[.pointer (some ⟨M.t 0, 0, none⟩), .int .i64 n, .int .i64 x, .int .i64 y, .int .i64 ww, .int .i64 hh, p.agg] w fun e w' => e = .returned (.int .i64 (fillE L n x y ww hh p)) ∧ Below w.heap.size w w' := by
  have HD : Hid (DkAt w M L last N s t) := h
  clear h
  have hb1 : Below w.heap.size w (w.alloc (.cells #[.int .i64 p.f, .int .i64 p.b, .bool p.bo, .bool p.un, .bool p.re] 33)) := (Below.refl _ _).alloc (Nat.le_refl _) _
  have HDa : Hid (DkAt (w.alloc (.cells #[.int .i64 p.f, .int .i64 p.b, .bool p.bo, .bool p.un, .bool p.re] 33)) M L last N s t) := HD.out.below hb1
  unfold fillE at he ⊢
  by_cases h1 : hasN L n = false
  · rw [if_pos h1]
    have hf := M.fnd_no h1
    clear he
    go_enter Tryz.func33, Tryz.ntmps33
    go_wp2_with (first | (go_at_call 75; refine (kFind ok _ HDa.out _).mono ?_; rintro e w' ⟨rfl, hw'⟩; replace hw' := hw'.symm; subst hw'))
    go_ret
    exact ⟨rfl, hb1⟩
  rw [if_neg h1] at he ⊢
  obtain ⟨v, hv, rfl⟩ := hasN_iff.1 (by simpa using h1)
  have hf := M.fnd_in hv
  clear h1
  by_cases h2 : placeB x y = false
  · rw [if_pos h2]
    clear he
    go_enter Tryz.func33, Tryz.ntmps33
    go_wp2_with (first | (go_at_call 75; refine (kFind ok _ HDa.out _).mono ?_; rintro e w' ⟨rfl, hw'⟩; replace hw' := hw'.symm; subst hw') | (go_at_call 76; refine (pPlace _ _ _).mono ?_; rintro e w' ⟨rfl, hw'⟩; replace hw' := hw'.symm; subst hw'))
    go_ret
    exact ⟨rfl, hb1⟩
  rw [if_neg h2] at he ⊢
  have h2' : placeB x y = true := by simpa using h2
  clear h2
  by_cases h3 : rectB ww hh = false
  · rw [if_pos h3]
    clear he
    go_enter Tryz.func33, Tryz.ntmps33
    go_wp2_with (first | (go_at_call 75; refine (kFind ok _ HDa.out _).mono ?_; rintro e w' ⟨rfl, hw'⟩; replace hw' := hw'.symm; subst hw') | (go_at_call 76; refine (pPlace _ _ _).mono ?_; rintro e w' ⟨rfl, hw'⟩; replace hw' := hw'.symm; subst hw') | (go_at_call 84; refine (pRect _ _ _).mono ?_; rintro e w' ⟨rfl, hw'⟩; replace hw' := hw'.symm; subst hw'))
    go_ret
    exact ⟨rfl, hb1⟩
  rw [if_neg h3] at he ⊢
  have h3' : rectB ww hh = true := by simpa using h3
  clear h3
  by_cases h4 : penB p = false
  · rw [if_pos h4]
    clear he
    obtain ⟨p0, p1, p2, p3, p4⟩ := pen_new w p 33
    go_enter Tryz.func33, Tryz.ntmps33
    go_wp2_with (first | (go_at_call 75; refine (kFind ok _ HDa.out _).mono ?_; rintro e w' ⟨rfl, hw'⟩; replace hw' := hw'.symm; subst hw') | (go_at_call 76; refine (pPlace _ _ _).mono ?_; rintro e w' ⟨rfl, hw'⟩; replace hw' := hw'.symm; subst hw') | (go_at_call 84; refine (pRect _ _ _).mono ?_; rintro e w' ⟨rfl, hw'⟩; replace hw' := hw'.symm; subst hw'))
    go_at_call 77
    refine (pPen p _).mono ?_
    rw [h4]
    rintro e wb ⟨rfl, hbb⟩
    have HB : Hid (Below w.heap.size w wb) := hb1.trans (hbb.mono hb1.size)
    clear p0 p1 p2 p3 p4 hbb
    go_wp2_with fail
    go_ret
    exact ⟨rfl, HB.out⟩
  · rw [if_neg h4] at he; omega
set_option maxHeartbeats 2000000 in
theorem kFill (ok : DOk L last) (w : World) (h : DkAt w M L last N s t) (v : Wn) (hv : v ∈ L) (x y ww hh : Int) (p : Pn) (hpl : placeB x y = true) (hrc : rectB ww hh = true) (hpn : penB p = true) :
    Calls Tryz.prog 33 #[.pointer (some ⟨M.t 0, 0, none⟩), .int .i64 v.n, .int .i64 x, .int .i64 y, .int .i64 ww, .int .i64 hh, p.agg] w (DPost M L (updL L v.n (fun u => { u with G := fillJ v.W x y ww hh p v.G v.H })) last N s t w (.int .i64 0)) := by
  have HD : Hid (DkAt w M L last N s t) := h
  have hf := M.fnd_in hv
  have hx := placeB_iff.1 hpl
  have hr := rectB_iff.1 hrc
  clear h
  have hb1 : Below w.heap.size w (w.alloc (.cells #[.int .i64 p.f, .int .i64 p.b, .bool p.bo, .bool p.un, .bool p.re] 33)) := (Below.refl _ _).alloc (Nat.le_refl _) _
  have HDa : Hid (DkAt (w.alloc (.cells #[.int .i64 p.f, .int .i64 p.b, .bool p.bo, .bool p.un, .bool p.re] 33)) M L last N s t) := HD.out.below hb1
  have P1 := pen_new w p 33
  obtain ⟨p0, p1, p2, p3, p4⟩ := id P1
  go_enter Tryz.func33, Tryz.ntmps33
  go_wp2_with (first | (go_at_call 75; refine (kFind ok _ HDa.out _).mono ?_; rintro e w' ⟨rfl, hw'⟩; replace hw' := hw'.symm; subst hw') | (go_at_call 76; refine (pPlace _ _ _).mono ?_; rintro e w' ⟨rfl, hw'⟩; replace hw' := hw'.symm; subst hw') | (go_at_call 84; refine (pRect _ _ _).mono ?_; rintro e w' ⟨rfl, hw'⟩; replace hw' := hw'.symm; subst hw'))
  go_at_call 77
  refine (pPen p _).mono ?_
  rw [hpn]
  rintro e wb ⟨rfl, hbb⟩
  have HDb : Hid (DkAt wb M L last N s t) := HDa.out.below hbb
  have P2 := P1.same (hbb.block _ P1.lt)
  have K2 : Hid (Below w.heap.size w wb) := hb1.trans (hbb.mono hb1.size)
  clear p0 p1 p2 p3 p4 P1 hbb HDa hb1
  obtain ⟨p0, p1, p2, p3, p4⟩ := P2
  go_wp2_with fail
  go_at_call 85
  refine (wFill v _ _ _ _ _ _ x y ww hh p _ (HDb.out.win v hv) (HDb.out.ne_bg hv) hx hr).mono ?_
  rintro e wc ⟨rfl, G1, K1⟩
  have HP : Hid (DPost M L (updL L v.n (fun u => { u with G := fillJ v.W x y ww hh p v.G v.H })) last N s t w (.int .i64 0) (.returned (.int .i64 0)) wc) := by
    obtain ⟨M', e1, D1, t1, k1, o1⟩ := HDb.out.setG ok hv _ (fillJ_wf (HDb.out.win v hv).wf v.H) G1 K1 (.int .i64 0)
    exact ⟨M', e1, D1, t1, (Keep.below _ K2.out).trans k1 (fun _ _ h => h), fun i hi => (o1 i hi).imp id (fun h => by have := K2.out.size; omega)⟩
  clear G1 K1 HDb K2 p0 p1 p2 p3 p4
  go_wp2_with fail
  go_ret
  exact HP.out
end
end Go.Proofs.YtjlfibhbfdckpaaGreatDoor

/- The program's desk: Shape. -/
namespace Go.Proofs.YtjlfibhbfdckpaaGreatDoor
open Go.RowKit
attribute [local go_sem ↓] Go.wp_at_zero Go.wp_at_succ
section
variable {M : Mm} {L : List Wn} {last : Int} {N : Nat} {s : Rs} {t : Pt}
/-- A window's cells lie elsewhere. -/
def Mm.setG (M : Mm) (n : Int) (g : Nat) : Mm := { M with g := updI' M.g n g }
theorem setG_blk {n : Int} {g : Nat} {p : Pl} (hp : p ≠ .win n 2) : (M.setG n g).blk p = M.blk p := by
  cases p with
  | top k => rfl
  | win m k =>
    match k with
    | 0 => rfl
    | 1 => rfl
    | 2 =>
      show some (updI' M.g n g m) = some (M.g m)
      rw [updI'_other _ _ (fun e => hp (by rw [e]))]
    | k + 3 => rfl
theorem updL_ok {f : Wn → Wn} {n : Int} (hnn : ∀ u ∈ L, u.n = n → (f u).n = n) (p : Pl) : p.ok (updL L n f) ↔ p.ok L := by
  cases p with
  | top k => exact Iff.rfl
  | win m k =>
    have e := updL_nums hnn
    have h1 : (∃ u ∈ updL L n f, u.n = m) ↔ m ∈ (updL L n f).map Wn.n := by simp
    have h2 : (∃ u ∈ L, u.n = m) ↔ m ∈ L.map Wn.n := by simp
    show _ ∧ _ ↔ _ ∧ _
    rw [h1, h2, e]
theorem updL_ptrs {f : Wn → Wn} {n : Int} (hnn : ∀ u ∈ L, u.n = n → (f u).n = n) (hpp : ∀ u ∈ L, u.n = n → (f u).par = u.par) (m : Int) : M.ptrs (kids (updL L n f) m) = M.ptrs (kids L m) := by
  rw [kids_updL hpp]
  unfold Mm.ptrs
  rw [List.map_map]
  refine List.map_congr_left fun u hu => ?_
  simp only [Function.comp]
  split
  · rename_i e; rw [hnn u (mem_kids.1 hu).1 e, e]
  · rfl
theorem DkAt.shape {w w' : World} (h : DkAt w M L last N s t) (ok : DOk L last) {v : Wn} (hv : v ∈ L) (W' H' g' : Nat) (G' : Nat → Nat → Cel) (hwf : Wf W' H' G')
    (hg : GrAt w' (M.c v.n) g' W' H' (H' * W') G') (hk : Keep (fun i => i = M.c v.n ∨ i = M.g v.n) w w') (hgn : w.heap.size ≤ g') (r : Value) :
    DPost M L (updL L v.n (fun u => { u with W := W', H := H', G := G' })) last N s t w r (.returned r) w' := by
  obtain ⟨rk, K, T⟩ := ok.tree
  have hV := h.win v hv
  have hnn : ∀ u ∈ L, u.n = v.n → ({ u with W := W', H := H', G := G' } : Wn).n = v.n := fun u _ e => e
  have hpp : ∀ u ∈ L, u.n = v.n → ({ u with W := W', H := H', G := G' } : Wn).par = u.par := fun _ _ _ => rfl
  have hok := updL_ok (f := fun u => { u with W := W', H := H', G := G' }) hnn
  have kp : ∀ (p : Pl) (i : Nat), p.ok L → M.blk p = some i → p ≠ .win v.n 1 → p ≠ .win v.n 2 → w'.heap[i]? = w.heap[i]? := fun p i hp e n1 n2 => hk.block i (h.lt ⟨p, hp, e⟩) (by
    rintro (e' | e')
    · exact h.ne (p := p) (q := .win v.n 1) hp ⟨by omega, v, hv, rfl⟩ e rfl n1 e'
    · exact h.ne (p := p) (q := .win v.n 2) hp ⟨by omega, v, hv, rfl⟩ e rfl n2 e')
  have hold : ∀ p : Pl, p.ok (updL L v.n (fun u => { u with W := W', H := H', G := G' })) → ¬ p = .win v.n 2 → p.ok L ∧ (M.setG v.n g').blk p = M.blk p := fun p hp hn => ⟨(hok p).1 hp, setG_blk hn⟩
  have hfr : ∀ (p : Pl) (i : Nat), p.ok (updL L v.n (fun u => { u with W := W', H := H', G := G' })) → p = .win v.n 2 → (M.setG v.n g').blk p = some i → w.heap.size ≤ i := fun p i _ e hb => by
    subst e
    have : some (updI' M.g v.n g' v.n) = some i := hb
    rw [updI'_same] at this
    obtain rfl : g' = i := by simpa using this
    exact hgn
  have nt : ∀ k, k < 5 → w'.heap[M.t k]? = w.heap[M.t k]? := fun k hk5 => kp (.top k) _ hk5 rfl (by simp) (by simp)
  refine ⟨M.setG v.n g', rfl, ⟨(nt 0 (by omega)).trans h.b0, (nt 1 (by omega)).trans h.b1, h.scr.same (nt 2 (by omega)) (nt 3 (by omega)) (nt 4 (by omega)), ?_, ?_, ?_⟩, rfl, ?_, fun i hi => own_of w.heap.size (fun p => p = .win v.n 2) hold hfr hi⟩
  · intro u hu
    show WinV w' u (M.b u.n) (M.c u.n) (updI' M.g v.n g' u.n) (M.pp u.par) (M.s u.n) (M.ptrs (kids (updL L v.n _) u.n))
    rw [updL_ptrs hnn hpp]
    rcases mem_updL hv rfl u hu T.nd with rfl | ⟨huL, hne⟩
    · show WinV w' _ (M.b v.n) (M.c v.n) (updI' M.g v.n g' v.n) (M.pp v.par) (M.s v.n) (M.ptrs (kids L v.n))
      rw [updI'_same]
      exact ⟨(kp (.win v.n 0) _ ⟨by omega, v, hv, rfl⟩ rfl (by simp) (by simp)).trans hV.blk, hg, hwf, ownsRow_same hV.row (fun i hi => kp (.win v.n 3) i ⟨by omega, v, hv, rfl⟩ hi (by simp) (by simp))⟩
    · rw [updI'_other _ _ hne]
      have hne' : ∀ k j, (Pl.win u.n k) ≠ .win v.n j := fun k j e => by injection e with e1; exact hne e1
      exact (h.win u huL).same (kp (.win u.n 0) _ ⟨by omega, u, huL, rfl⟩ rfl (hne' _ _) (hne' _ _)) (kp (.win u.n 1) _ ⟨by omega, u, huL, rfl⟩ rfl (hne' _ _) (hne' _ _)) (kp (.win u.n 2) _ ⟨by omega, u, huL, rfl⟩ rfl (hne' _ _) (hne' _ _)) (fun i hi => kp (.win u.n 3) i ⟨by omega, u, huL, rfl⟩ hi (hne' _ _) (hne' _ _))
  · exact inj_of h.inj w.heap.size (fun i hi => h.lt hi) (fun p => p = .win v.n 2) hold hfr (fun p q i _ _ e1 e2 _ _ => by rw [e1, e2])
  · intro i hi
    rcases own_of w.heap.size (fun p => p = .win v.n 2) hold hfr hi with e | e
    · exact h.two i e
    · have := h.two _ (own_top M L 0 (by omega)); have := h.lt (own_top M L 0 (by omega)); omega
  · exact hk.mono (fun i e => by rcases e with rfl | rfl; exact own_c M hv; exact own_g M hv)
theorem wShape (v : Wn) (bn cn gn : Nat) (pp : Option Addr) (sv : Value) (ks : List Value) (W' H' : Nat) (w : World) (h : WinV w v bn cn gn pp sv ks) (w1 : 1 ≤ W') (w2 : W' ≤ 40) (h1 : 1 ≤ H') (h2 : H' ≤ 20) :
    Calls Tryz.prog 114 #[.pointer (some ⟨bn, 0, none⟩), .int .i64 W', .int .i64 H'] w fun e w' => ∃ g', e = .returned (.tuple #[]) ∧ GrAt w' cn g' W' H' (H' * W') (sizedG v.W v.H W' v.G) ∧ Keep (fun i => i = cn ∨ i = gn) w w' ∧ w.heap.size ≤ g' := by
  have HV : Hid (WinV w v bn cn gn pp sv ks) := h
  have f5 := h.f5
  clear h
  go_enter Tryz.func114, Tryz.ntmps114
  go_wp2_with fail
  go_at_call 119
  refine (pSize cn gn v.W v.H _ W' H' v.G _ HV.out.gr HV.out.wf w1 w2 h1 h2).mono ?_
  rintro e w' ⟨g', rfl, G2, K2, hg⟩
  have HG2 : Hid (GrAt w' cn g' W' H' (H' * W') (sizedG v.W v.H W' v.G)) := G2
  clear G2
  go_wp2_with fail
  go_end0
  exact ⟨g', rfl, HG2.out, K2, hg⟩
theorem kShape (ok : DOk L last) (w : World) (h : DkAt w M L last N s t) (v : Wn) (hv : v ∈ L) (hp : v.par ≠ -1) (W' H' : Nat) (hs : sizeB W' H' = true) :
    Calls Tryz.prog 51 #[.pointer (some ⟨M.t 0, 0, none⟩), .int .i64 v.n, .int .i64 W', .int .i64 H'] w (DPost M L (updL L v.n (fun u => { u with W := W', H := H', G := sizedG v.W v.H W' v.G })) last N s t w (.int .i64 0)) := by
  have HD : Hid (DkAt w M L last N s t) := h
  have hz := sizeB_iff.1 hs
  clear h
  go_enter Tryz.func51, Tryz.ntmps51
  go_wp2_with (first | (go_at_call 111; refine (kBelow ok _ HD.out v hv hp).mono ?_; rintro e w' ⟨rfl, hw'⟩; replace hw' := hw'.symm; subst hw') | (go_at_call 46; refine (pMayBe _ _ _).mono ?_; rintro e w' ⟨rfl, hw'⟩; replace hw' := hw'.symm; subst hw'))
  go_at_call 114
  refine (wShape v _ _ _ _ _ _ W' H' _ (HD.out.win v hv) (by omega) (by omega) (by omega) (by omega)).mono ?_
  rintro e wa ⟨g', rfl, G1, K1, hg⟩
  have HP : Hid (DPost M L (updL L v.n (fun u => { u with W := W', H := H', G := sizedG v.W v.H W' v.G })) last N s t w (.int .i64 0) (.returned (.int .i64 0)) wa) := HD.out.shape ok hv W' H' g' _ (HD.out.win v hv).wf.sized G1 K1 hg _
  clear G1 K1 HD
  go_wp2_with fail
  go_ret
  exact HP.out
theorem kShapeNo (ok : DOk L last) (w : World) (h : DkAt w M L last N s t) (n x y : Int) (he : childE L n ≠ 0) :
    Calls Tryz.prog 51 #[.pointer (some ⟨M.t 0, 0, none⟩), .int .i64 n, .int .i64 x, .int .i64 y] w fun e w' => e = .returned (.int .i64 (childE L n)) ∧ w' = w := by
  have HD : Hid (DkAt w M L last N s t) := h
  have hk := kBelowNo ok w h n he
  have Hk : Hid (Calls Tryz.prog 111 #[.pointer (some ⟨M.t 0, 0, none⟩), .int .i64 n] w fun e w' => e = .returned (.tuple #[.pointer none, .int .i64 (childE L n)]) ∧ w' = w) := hk
  clear h hk
  generalize childE L n = er at *
  go_enter Tryz.func51, Tryz.ntmps51
  go_wp2_with (first | (go_at_call 111; refine (Hk.out).mono ?_; rintro e w' ⟨rfl, hw'⟩; replace hw' := hw'.symm; subst hw'))
  go_ret
  exact ⟨rfl, rfl⟩
theorem kShapeOff (ok : DOk L last) (w : World) (h : DkAt w M L last N s t) (v : Wn) (hv : v ∈ L) (hp : v.par ≠ -1) (x y : Int) (hs : sizeB x y = false) :
    Calls Tryz.prog 51 #[.pointer (some ⟨M.t 0, 0, none⟩), .int .i64 v.n, .int .i64 x, .int .i64 y] w fun e w' => e = .returned (.int .i64 3) ∧ w' = w := by
  have HD : Hid (DkAt w M L last N s t) := h
  clear h
  go_enter Tryz.func51, Tryz.ntmps51
  go_wp2_with (first | (go_at_call 111; refine (kBelow ok _ HD.out v hv hp).mono ?_; rintro e w' ⟨rfl, hw'⟩; replace hw' := hw'.symm; subst hw') | (go_at_call 46; refine (pMayBe _ _ _).mono ?_; rintro e w' ⟨rfl, hw'⟩; replace hw' := hw'.symm; subst hw'))
  go_ret
  exact ⟨rfl, rfl⟩
theorem kDeleteNo (ok : DOk L last) (w : World) (h : DkAt w M L last N s t) (n : Int) (he : childE L n ≠ 0) :
    Calls Tryz.prog 49 #[.pointer (some ⟨M.t 0, 0, none⟩), .int .i64 n] w fun e w' => e = .returned (.int .i64 (childE L n)) ∧ w' = w := by
  have HD : Hid (DkAt w M L last N s t) := h
  have hk := kBelowNo ok w h n he
  have Hk : Hid (Calls Tryz.prog 111 #[.pointer (some ⟨M.t 0, 0, none⟩), .int .i64 n] w fun e w' => e = .returned (.tuple #[.pointer none, .int .i64 (childE L n)]) ∧ w' = w) := hk
  clear h hk
  generalize childE L n = er at *
  go_enter Tryz.func49, Tryz.ntmps49
  go_wp2_with (first | (go_at_call 111; refine (Hk.out).mono ?_; rintro e w' ⟨rfl, hw'⟩; replace hw' := hw'.symm; subst hw'))
  go_ret
  exact ⟨rfl, rfl⟩
/-- A window goes, and all that lies in it. -/
noncomputable def delL (L : List Wn) (n : Int) : List Wn := L.filter (fun u => !(@decide (Sub L n u.n) (Classical.propDecidable _)))
theorem mem_delL {n : Int} {u : Wn} : u ∈ delL L n ↔ u ∈ L ∧ ¬ Sub L n u.n := by simp [delL]
theorem delL_kids (nd : (L.map Wn.n).Nodup) {v : Wn} {u : Wn} (hu : u ∈ delL L v.n) : kids (delL L v.n) u.n = kids (filtN L v.n) u.n := by
  unfold kids delL filtN
  rw [List.filter_filter, List.filter_filter]
  refine List.filter_congr fun k hk => ?_
  by_cases hp : k.par = u.n
  · have hu' := (mem_delL.1 hu).2
    by_cases he : k.n = v.n
    · have : Sub L v.n v.n := .refl
      simp [hp, he, this]
    · have : ¬ Sub L v.n k.n := fun hs => by
        rcases hs.last with e | ⟨k', hk', e, hs'⟩
        · exact he e
        · obtain rfl := nd_inj nd hk' hk e
          exact hu' (hp ▸ hs')
      simp [hp, he, this]
  · simp [hp]
theorem DkAt.sub {w : World} {L1 : List Wn} (h : DkAt w M L last N s t) (hs : ∀ u ∈ L1, u ∈ L) (hk : ∀ u ∈ L1, kids L1 u.n = kids L u.n) : DkAt w M L1 last N s t :=
  ⟨h.b0, h.b1, h.scr, fun u hu => by rw [hk u hu]; exact h.win u (hs u hu), inj_sub hs h.inj, fun i hi => h.two i (own_sub hs hi)⟩
theorem delL_sub {v : Wn} {u : Wn} (hu : u ∈ delL L v.n) : u ∈ filtN L v.n := by
  obtain ⟨h1, h2⟩ := mem_delL.1 hu
  exact mem_filtN.2 ⟨h1, fun e => h2 (e ▸ .refl)⟩
theorem kDelete (ok : DOk L last) (w : World) (h : DkAt w M L last N s t) (v o : Wn) (hv : v ∈ L) (ho : o ∈ L) (hp : v.par = o.n) (hvo : v.n ≠ o.n) (hp1 : v.par ≠ -1) :
    Calls Tryz.prog 49 #[.pointer (some ⟨M.t 0, 0, none⟩), .int .i64 v.n] w (DPost M L (delL L v.n) last N s t w (.int .i64 0)) := by
  obtain ⟨rk, K, T⟩ := ok.tree
  have Hnd : Hid ((L.map Wn.n).Nodup) := T.nd
  have HD : Hid (DkAt w M L last N s t) := h
  clear h T
  have Hdel : Hid (Calls Tryz.prog 112 #[M.ptr v.n] w (DPost M L (delL L v.n) last N s t w (.tuple #[]))) := by
    show Calls _ _ _ _ _
    go_enter Tryz.func112, Tryz.ntmps112
    go_wp2_with fail
    go_at_call 152
    refine (dLeave ok _ HD.out v o hv ho hp hvo).mono ?_
    rintro e w1 ⟨sp, rfl, D1, V1, K1, hso, _⟩
    have hblk := setS_blk (M := M) hso
    have HP : Hid (DPost M L (delL L v.n) last N s t w (.tuple #[]) (.returned (.tuple #[])) w1) := ⟨M.setS o.n sp, rfl, D1.sub (fun u hu => delL_sub hu) (fun u hu => delL_kids Hnd.out hu), rfl, K1, fun i ⟨p, hp', e⟩ => .inl (own_sub (fun u hu => (mem_delL.1 hu).1) ⟨p, hp', by rw [← hblk]; exact e⟩)⟩
    clear D1 V1 K1 hblk hso
    go_wp2_with fail
    go_end0
    exact HP.out
  go_enter Tryz.func49, Tryz.ntmps49
  go_wp2_with (first | (go_at_call 111; refine (kBelow ok _ HD.out v hv hp1).mono ?_; rintro e w' ⟨rfl, hw'⟩; replace hw' := hw'.symm; subst hw'))
  go_at_call 112
  refine Hdel.out.mono ?_
  rintro e w1 hl
  obtain ⟨rfl, HP⟩ := hl.ret (r' := .int .i64 0)
  have HP1 : Hid (DPost M L (delL L v.n) last N s t w (.int .i64 0) (.returned (.int .i64 0)) w1) := HP
  clear hl HP
  go_wp2_with fail
  go_ret
  exact HP1.out
end
end Go.Proofs.YtjlfibhbfdckpaaGreatDoor

/- Desks, plain: a text's letters as the document reads them; the uppermost by places; lists that are made anew. -/
namespace Go.Proofs.YtjlfibhbfdckpaaGreatDoor
/-- A list with a window right behind its first. -/
def botM (v : Wn) : List Wn → List Wn
  | [] => [v]
  | r :: t => r :: v :: t
theorem botL_botM (L : List Wn) (v : Wn) : botL L v = botM v (filtN L v.n) := by
  unfold botL botM; split <;> simp_all
theorem botM_len (v : Wn) (M : List Wn) : (botM v M).length = M.length + 1 := by cases M <;> simp [botM]
/-- The windows of the list's first k but one. -/
def firstN (L : List Wn) (n : Int) (k : Nat) : List Wn := filtN (L.take k) n
noncomputable def firstD (L : List Wn) (n : Int) (k : Nat) : List Wn := (L.take k).filter (fun u => !(@decide (Sub L n u.n) (Classical.propDecidable _)))
end Go.Proofs.YtjlfibhbfdckpaaGreatDoor

/- The program's screen: eraser, goTo, scroll, erase, lineFeed. -/
namespace Go.Proofs.YtjlfibhbfdckpaaGreatDoor
open Go.RowKit
attribute [local go_sem ↓] Go.wp_at_zero Go.wp_at_succ
theorem sEraser (bs bg g N : Nat) (s : Rs) (t : Pt) (w : World) (h : PrAt w bs bg g N s t) :
    Calls Tryz.prog 228 #[.pointer (some ⟨bs, 0, none⟩)] w fun e w' => e = .returned (backR s).agg ∧ Below w.heap.size w w' := by
  have c := h.f5
  have l := h.lt
  clear h
  go_enter Tryz.func228, Tryz.ntmps228
  go_wp2
  exact bodyPost_ret (v := (backR s).agg) (by simp [results, Tryz.results228, go_sem, backR]) rfl ⟨rfl, (Below.refl _ _).alloc (Nat.le_refl _) _⟩
set_option maxHeartbeats 1000000 in
theorem sGoTo (bs bg g N : Nat) (s : Rs) (t : Pt) (x y : Int) (w : World) (h : PrAt w bs bg g N s t) :
    Calls Tryz.prog 120 #[.pointer (some ⟨bs, 0, none⟩), .int .i64 x, .int .i64 y] w (SPost bs bg g N w (goesR s x y) t (.tuple #[])) := by
  have HP : Hid (PrAt w bs bg g N s t) := h
  have c0 := h.f0
  have c1 := h.f1
  have c2 := h.f2
  have c3 := h.f3
  have fz := h.free
  have w1 := h.gr.w1
  have w2 := h.gr.w2
  have h1 := h.gr.h1
  have h2 := h.gr.h2
  have hbw := clamp_between x w1
  have hbh := clamp_between y h1
  clear h
  go_enter Tryz.func120, Tryz.ntmps120
  go_wp2_with (first | (go_at_call 126; refine (pWidth bg g s.W s.H N s.G _ HP.out.gr).mono ?_; rintro e w' ⟨rfl, hw'⟩; replace hw' := hw'.symm; subst hw') | (go_at_call 156; refine (pBetween _ _ _ _).mono ?_; rintro e w' ⟨rfl, hw'⟩; replace hw' := hw'.symm; subst hw'))
  have HP1 : Hid (PrAt (w.setCell ⟨bs, 1, none⟩ (.int .i64 (clampI x s.W))) bs bg g N { s with x := clampI x s.W } t) := HP.out.setX _
  go_wp2_with (first | (go_at_call 127; refine (pHeight bg g s.W s.H N s.G _ HP1.out.gr).mono ?_; rintro e w' ⟨rfl, hw'⟩; replace hw' := hw'.symm; subst hw') | (go_at_call 156; refine (pBetween _ _ _ _).mono ?_; rintro e w' ⟨rfl, hw'⟩; replace hw' := hw'.symm; subst hw'))
  go_end0
  exact ⟨rfl, (HP1.out.setY _).setPend false, (((Keep.refl _ w).setCell ⟨bs, 1, none⟩ _ (fun _ => Or.inl rfl)).setCell ⟨bs, 2, none⟩ _ (fun _ => Or.inl rfl)).setCell ⟨bs, 3, none⟩ _ (fun _ => Or.inl rfl)⟩
set_option maxHeartbeats 1000000 in
theorem sScroll (bs bg g N : Nat) (s : Rs) (t : Pt) (n : Int) (w : World) (h : PrAt w bs bg g N s t) (h0 : 0 ≤ s.top) (ht : s.top ≤ s.bot) (hb : s.bot < s.H) :
    Calls Tryz.prog 208 #[.pointer (some ⟨bs, 0, none⟩), .int .i64 n] w (SPost bs bg g N w { s with G := scrollG s.top s.bot n (backR s) s.G } t (.tuple #[])) := by
  have HP : Hid (PrAt w bs bg g N s t) := h
  have c0 := h.f0
  have c9 := h.f9
  have c10 := h.f10
  clear h
  go_enter Tryz.func208, Tryz.ntmps208
  go_wp2_with fail
  have HD : Hid (PrAt w.drew bs bg g N s t) := HP.out.drew
  have lt : bs < w.heap.size := HP.out.lt
  have ng : ¬ bs = g := HP.out.ne2
  go_region_held3 (fun w' => w'.cell? ⟨bs, 0, none⟩ = some (.pointer (some ⟨bg, 0, none⟩)) ∧ w'.cell? ⟨bs, 9, none⟩ = some (.int .i64 s.top) ∧ w'.cell? ⟨bs, 10, none⟩ = some (.int .i64 s.bot)) (simp [*]) (first | (go_at_call 228; refine (sEraser bs bg g N s t _ HD.out).mono ?_; rintro e w2 ⟨rfl, hb2⟩; have HP2 : Hid (PrAt w2 bs bg g N s t) := HD.out.below hb2; have K2 : Keep (fun i => i = bs ∨ i = bg ∨ i = g) w w2 := ((Keep.refl _ w).drew).thenBelow hb2; have e1 := hb2.cells lt; clear hb2) | (go_at_call 141; refine (pScrollG bg g s.W s.H N s.G s.top s.bot n (backR s) _ HP2.out.gr h0 ht hb).mono ?_; rintro e w3 ⟨rfl, G3, K3⟩; have e2 := keepC K3 HP2.out.lt ng))
  go_wp2_with fail
  go_end0
  exact ⟨rfl, HP2.out.cells _ (K3.block _ HP2.out.lt ng) G3 rfl ng, K2.trans K3 (fun _ _ h => Or.inr (Or.inr h))⟩
end Go.Proofs.YtjlfibhbfdckpaaGreatDoor

/- The program's screen: Resize. -/
namespace Go.Proofs.YtjlfibhbfdckpaaGreatDoor
open Go.RowKit
attribute [local go_sem ↓] Go.wp_at_zero Go.wp_at_succ
set_option maxHeartbeats 1000000 in
theorem sResize (bs bg g N : Nat) (s : Rs) (t : Pt) (W H : Nat) (w : World) (h : PrAt w bs bg g N s t) (ok : s.Ok) (w1 : 1 ≤ W) (w2 : W ≤ 40) (h1 : 1 ≤ H) (h2 : H ≤ 20) :
    Calls Tryz.prog 59 #[.pointer (some ⟨bs, 0, none⟩), .int .i64 W, .int .i64 H] w (PPost bs bg g w (resizeR s W H) t (.tuple #[])) := by
  have HP : Hid (PrAt w bs bg g N s t) := h
  have Hok : Hid s.Ok := ok
  have c0 := h.f0
  clear h ok
  go_enter Tryz.func59, Tryz.ntmps59
  go_wp2_with fail
  go_at_call 119
  refine (pSize bg g s.W s.H N W H s.G _ HP.out.gr Hok.out.wf w1 w2 h1 h2).mono ?_
  rintro e wa ⟨g1, rfl, G1, K1, hg1⟩
  have hlt := HP.out.lt
  have hne : bs ≠ bg ∧ bs ≠ g := ⟨HP.out.ne1, HP.out.ne2⟩
  have HP1 : Hid (PrAt wa bs bg g1 (H * W) { s with W := W, H := H, G := sizedG s.W s.H W s.G } t) := HP.out.cells _ (K1.block _ hlt (by omega)) G1 rfl (by omega)
  have HK1 : Hid (Keep (fun i => i = bs ∨ i = bg ∨ i = g) w wa) := K1.mono (fun _ h => Or.inr h)
  clear G1 K1 HP c0
  have c9 := HP1.out.f9
  have c10 := HP1.out.f10
  have fz := HP1.out.free
  go_wp2_with fail
  have HP2 : Hid (PrAt ((wa.setCell ⟨bs, 9, none⟩ (.int .i64 0)).setCell ⟨bs, 10, none⟩ (.int .i64 ((H : Int) - 1))) bs bg g1 (H * W) { s with W := W, H := H, top := 0, bot := (H : Int) - 1, G := sizedG s.W s.H W s.G } t) := (HP1.out.setTop 0).setBot _
  have HK2 : Hid (Keep (fun i => i = bs ∨ i = bg ∨ i = g) w ((wa.setCell ⟨bs, 9, none⟩ (.int .i64 0)).setCell ⟨bs, 10, none⟩ (.int .i64 ((H : Int) - 1)))) := (HK1.out.setCell ⟨bs, 9, none⟩ _ (fun _ => Or.inl rfl)).setCell ⟨bs, 10, none⟩ _ (fun _ => Or.inl rfl)
  generalize (wa.setCell ⟨bs, 9, none⟩ (.int .i64 0)).setCell ⟨bs, 10, none⟩ (.int .i64 ((H : Int) - 1)) = wb at *
  clear HP1 HK1 c9 c10 fz
  have c1 : wb.cell? ⟨bs, 1, none⟩ = some (.int .i64 s.x) := HP2.out.f1
  have c2 : wb.cell? ⟨bs, 2, none⟩ = some (.int .i64 s.y) := HP2.out.f2
  go_region_with (first | (go_at_call 120; refine (sGoTo bs bg g1 (H * W) { s with W := W, H := H, top := 0, bot := (H : Int) - 1, G := sizedG s.W s.H W s.G } t s.x s.y _ HP2.out.drew).mono ?_; rintro e w5 ⟨rfl, R5, K5⟩))
  all_goals
    go_end0
    refine ⟨g1, H * W, rfl, R5, (HK2.out.drew).trans K5 (fun i hi h => by omega), Or.inr hg1⟩
end Go.Proofs.YtjlfibhbfdckpaaGreatDoor
