/- Texts of the proof, one behind the other: RdE, RdF, RdG. -/
import Derived.Test.YtjlfibhbfdckpaaGreatDoorK29
import Derived.Test.YtjlfibhbfdckpaaGreatDoorK38
import Derived.Deep.RegionLaw
/- The document's desk: calls that fail. -/
namespace Go.Proofs.YtjlfibhbfdckpaaGreatDoor
open Go.RowKit
attribute [local go_sem ↓] Go.wp_at_zero Go.wp_at_succ
section
variable {R : Rm} {L : List Wn} {last : Int}
theorem rdShowNo (ok : DOk L last) (w : World) (h : RkAt w R L last) (n : Int) (b : Bool) (he : childE L n ≠ 0) :
    Calls Tryz.prog 101 #[.pointer (some ⟨R.d, 0, none⟩), .int .i64 n, .bool b] w fun e w' => e = .returned (.int .i64 (childE L n)) ∧ w' = w := by
  have H : Hid (Calls Tryz.prog 143 #[.pointer (some ⟨R.d, 0, none⟩), .int .i64 n] w fun e w' => e = .returned (.tuple #[.int .i64 (-1), .int .i64 (childE L n)]) ∧ w' = w) := rdChildNo ok w h n he
  clear h
  generalize childE L n = er at *
  go_enter Tryz.func101, Tryz.ntmps101
  go_wp2_with (first | (go_at_call 143; refine (H.out).mono ?_; rintro e w' ⟨rfl, hw'⟩; replace hw' := hw'.symm; subst hw'))
  go_ret
  exact ⟨rfl, rfl⟩
theorem rdShowNil (w : World) (n : Int) (b : Bool) :
    Calls Tryz.prog 101 #[.pointer none, .int .i64 n, .bool b] w fun e w' => e = .returned (.int .i64 1) ∧ w' = w := by
  go_enter Tryz.func101, Tryz.ntmps101
  go_wp2_with (first | (go_at_call 143; refine (rdChildNil _ _).mono ?_; rintro e w' ⟨rfl, hw'⟩; replace hw' := hw'.symm; subst hw'))
  go_ret
  exact ⟨rfl, rfl⟩
theorem rdMoveNo (ok : DOk L last) (w : World) (h : RkAt w R L last) (n : Int) (x y : Int) (he : childE L n ≠ 0) :
    Calls Tryz.prog 98 #[.pointer (some ⟨R.d, 0, none⟩), .int .i64 n, .int .i64 x, .int .i64 y] w fun e w' => e = .returned (.int .i64 (childE L n)) ∧ w' = w := by
  have H : Hid (Calls Tryz.prog 143 #[.pointer (some ⟨R.d, 0, none⟩), .int .i64 n] w fun e w' => e = .returned (.tuple #[.int .i64 (-1), .int .i64 (childE L n)]) ∧ w' = w) := rdChildNo ok w h n he
  clear h
  generalize childE L n = er at *
  go_enter Tryz.func98, Tryz.ntmps98
  go_wp2_with (first | (go_at_call 143; refine (H.out).mono ?_; rintro e w' ⟨rfl, hw'⟩; replace hw' := hw'.symm; subst hw'))
  go_ret
  exact ⟨rfl, rfl⟩
theorem rdMoveNil (w : World) (n : Int) (x y : Int) :
    Calls Tryz.prog 98 #[.pointer none, .int .i64 n, .int .i64 x, .int .i64 y] w fun e w' => e = .returned (.int .i64 1) ∧ w' = w := by
  go_enter Tryz.func98, Tryz.ntmps98
  go_wp2_with (first | (go_at_call 143; refine (rdChildNil _ _).mono ?_; rintro e w' ⟨rfl, hw'⟩; replace hw' := hw'.symm; subst hw'))
  go_ret
  exact ⟨rfl, rfl⟩
theorem rdShapeNo (ok : DOk L last) (w : World) (h : RkAt w R L last) (n : Int) (x y : Int) (he : childE L n ≠ 0) :
    Calls Tryz.prog 99 #[.pointer (some ⟨R.d, 0, none⟩), .int .i64 n, .int .i64 x, .int .i64 y] w fun e w' => e = .returned (.int .i64 (childE L n)) ∧ w' = w := by
  have H : Hid (Calls Tryz.prog 143 #[.pointer (some ⟨R.d, 0, none⟩), .int .i64 n] w fun e w' => e = .returned (.tuple #[.int .i64 (-1), .int .i64 (childE L n)]) ∧ w' = w) := rdChildNo ok w h n he
  clear h
  generalize childE L n = er at *
  go_enter Tryz.func99, Tryz.ntmps99
  go_wp2_with (first | (go_at_call 143; refine (H.out).mono ?_; rintro e w' ⟨rfl, hw'⟩; replace hw' := hw'.symm; subst hw'))
  go_ret
  exact ⟨rfl, rfl⟩
theorem rdShapeNil (w : World) (n : Int) (x y : Int) :
    Calls Tryz.prog 99 #[.pointer none, .int .i64 n, .int .i64 x, .int .i64 y] w fun e w' => e = .returned (.int .i64 1) ∧ w' = w := by
  go_enter Tryz.func99, Tryz.ntmps99
  go_wp2_with (first | (go_at_call 143; refine (rdChildNil _ _).mono ?_; rintro e w' ⟨rfl, hw'⟩; replace hw' := hw'.symm; subst hw'))
  go_ret
  exact ⟨rfl, rfl⟩
theorem rdRaiseNo (ok : DOk L last) (w : World) (h : RkAt w R L last) (n : Int) (b : Bool) (he : childE L n ≠ 0) :
    Calls Tryz.prog 100 #[.pointer (some ⟨R.d, 0, none⟩), .int .i64 n, .bool b] w fun e w' => e = .returned (.int .i64 (childE L n)) ∧ w' = w := by
  have H : Hid (Calls Tryz.prog 143 #[.pointer (some ⟨R.d, 0, none⟩), .int .i64 n] w fun e w' => e = .returned (.tuple #[.int .i64 (-1), .int .i64 (childE L n)]) ∧ w' = w) := rdChildNo ok w h n he
  clear h
  generalize childE L n = er at *
  go_enter Tryz.func100, Tryz.ntmps100
  go_wp2_with (first | (go_at_call 143; refine (H.out).mono ?_; rintro e w' ⟨rfl, hw'⟩; replace hw' := hw'.symm; subst hw'))
  go_ret
  exact ⟨rfl, rfl⟩
theorem rdRaiseNil (w : World) (n : Int) (b : Bool) :
    Calls Tryz.prog 100 #[.pointer none, .int .i64 n, .bool b] w fun e w' => e = .returned (.int .i64 1) ∧ w' = w := by
  go_enter Tryz.func100, Tryz.ntmps100
  go_wp2_with (first | (go_at_call 143; refine (rdChildNil _ _).mono ?_; rintro e w' ⟨rfl, hw'⟩; replace hw' := hw'.symm; subst hw'))
  go_ret
  exact ⟨rfl, rfl⟩
theorem rdDeleteNo (ok : DOk L last) (w : World) (h : RkAt w R L last) (n : Int)  (he : childE L n ≠ 0) :
    Calls Tryz.prog 97 #[.pointer (some ⟨R.d, 0, none⟩), .int .i64 n] w fun e w' => e = .returned (.int .i64 (childE L n)) ∧ w' = w := by
  have H : Hid (Calls Tryz.prog 143 #[.pointer (some ⟨R.d, 0, none⟩), .int .i64 n] w fun e w' => e = .returned (.tuple #[.int .i64 (-1), .int .i64 (childE L n)]) ∧ w' = w) := rdChildNo ok w h n he
  clear h
  generalize childE L n = er at *
  go_enter Tryz.func97, Tryz.ntmps97
  go_wp2_with (first | (go_at_call 143; refine (H.out).mono ?_; rintro e w' ⟨rfl, hw'⟩; replace hw' := hw'.symm; subst hw'))
  go_ret
  exact ⟨rfl, rfl⟩
theorem rdDeleteNil (w : World) (n : Int)  :
    Calls Tryz.prog 97 #[.pointer none, .int .i64 n] w fun e w' => e = .returned (.int .i64 1) ∧ w' = w := by
  go_enter Tryz.func97, Tryz.ntmps97
  go_wp2_with (first | (go_at_call 143; refine (rdChildNil _ _).mono ?_; rintro e w' ⟨rfl, hw'⟩; replace hw' := hw'.symm; subst hw'))
  go_ret
  exact ⟨rfl, rfl⟩
theorem rdMoveOff (ok : DOk L last) (w : World) (h : RkAt w R L last) (v : Wn) (j : Nat) (hj : L[j]? = some v) (hne : ∀ i u, i < j → L[i]? = some u → u.n ≠ v.n) (hj0 : j ≠ 0) (x y : Int) (hp : placeB x y = false) :
    Calls Tryz.prog 98 #[.pointer (some ⟨R.d, 0, none⟩), .int .i64 v.n, .int .i64 x, .int .i64 y] w fun e w' => e = .returned (.int .i64 4) ∧ w' = w := by
  have H : Hid (Calls Tryz.prog 143 #[.pointer (some ⟨R.d, 0, none⟩), .int .i64 v.n] w fun e w' => e = .returned (.tuple #[.int .i64 j, .int .i64 0]) ∧ w' = w) := rdChild ok w h v j hj hne hj0
  clear h hj hne
  go_enter Tryz.func98, Tryz.ntmps98
  go_wp2_with (first | (go_at_call 143; refine (H.out).mono ?_; rintro e w' ⟨rfl, hw'⟩; replace hw' := hw'.symm; subst hw') | (go_at_call 80; refine (rdPlace _ _ _).mono ?_; rintro e w' ⟨rfl, hw'⟩; replace hw' := hw'.symm; subst hw'))
  go_ret
  exact ⟨rfl, rfl⟩
theorem rdShapeOff (ok : DOk L last) (w : World) (h : RkAt w R L last) (v : Wn) (j : Nat) (hj : L[j]? = some v) (hne : ∀ i u, i < j → L[i]? = some u → u.n ≠ v.n) (hj0 : j ≠ 0) (x y : Int) (hp : sizeB x y = false) :
    Calls Tryz.prog 99 #[.pointer (some ⟨R.d, 0, none⟩), .int .i64 v.n, .int .i64 x, .int .i64 y] w fun e w' => e = .returned (.int .i64 3) ∧ w' = w := by
  have H : Hid (Calls Tryz.prog 143 #[.pointer (some ⟨R.d, 0, none⟩), .int .i64 v.n] w fun e w' => e = .returned (.tuple #[.int .i64 j, .int .i64 0]) ∧ w' = w) := rdChild ok w h v j hj hne hj0
  clear h hj hne
  go_enter Tryz.func99, Tryz.ntmps99
  go_wp2_with (first | (go_at_call 143; refine (H.out).mono ?_; rintro e w' ⟨rfl, hw'⟩; replace hw' := hw'.symm; subst hw') | (go_at_call 73; refine (refSize _ _ _).mono ?_; rintro e w' ⟨rfl, hw'⟩; replace hw' := hw'.symm; subst hw'))
  go_ret
  exact ⟨rfl, rfl⟩
theorem rdScrollNo (ok : DOk L last) (w : World) (h : RkAt w R L last) (n k : Int) (hn : hasN L n = false) :
    Calls Tryz.prog 36 #[.pointer (some ⟨R.d, 0, none⟩), .int .i64 n, .int .i64 k] w fun e w' => e = .returned (.int .i64 1) ∧ w' = w := by
  have H : Hid (Calls Tryz.prog 79 #[.pointer (some ⟨R.d, 0, none⟩), .int .i64 n] w fun e w' => e = .returned (.int .i64 (-1)) ∧ w' = w) := rdAtNo ok w h n hn
  clear h
  go_enter Tryz.func36, Tryz.ntmps36
  go_wp2_with (first | (go_at_call 79; refine (H.out).mono ?_; rintro e w' ⟨rfl, hw'⟩; replace hw' := hw'.symm; subst hw'))
  go_ret
  exact ⟨rfl, rfl⟩
theorem rdScrollNil (w : World) (n k : Int) :
    Calls Tryz.prog 36 #[.pointer none, .int .i64 n, .int .i64 k] w fun e w' => e = .returned (.int .i64 1) ∧ w' = w := by
  go_enter Tryz.func36, Tryz.ntmps36
  go_wp2_with (first | (go_at_call 79; refine (rdAtNil _ _).mono ?_; rintro e w' ⟨rfl, hw'⟩; replace hw' := hw'.symm; subst hw'))
  go_ret
  exact ⟨rfl, rfl⟩
theorem rdResizeNo (w : World) (d : Nat) (x y : Int) (hs : sizeB x y = false) :
    Calls Tryz.prog 37 #[.pointer (some ⟨d, 0, none⟩), .int .i64 x, .int .i64 y] w fun e w' => e = .returned (.int .i64 3) ∧ w' = w := by
  go_enter Tryz.func37, Tryz.ntmps37
  go_wp2_with (first | (go_at_call 73; refine (refSize _ _ _).mono ?_; rintro e w' ⟨rfl, hw'⟩; replace hw' := hw'.symm; subst hw'))
  go_ret
  exact ⟨rfl, rfl⟩
theorem rdResizeNil (w : World) (x y : Int) :
    Calls Tryz.prog 37 #[.pointer none, .int .i64 x, .int .i64 y] w fun e w' => e = .returned (.int .i64 1) ∧ w' = w := by
  go_enter Tryz.func37, Tryz.ntmps37
  go_wp2_with fail
  go_ret
  exact ⟨rfl, rfl⟩
end
end Go.Proofs.YtjlfibhbfdckpaaGreatDoor

/- The document's desk: Fill. -/
namespace Go.Proofs.YtjlfibhbfdckpaaGreatDoor
open Go.RowKit
attribute [local go_sem ↓] Go.wp_at_zero Go.wp_at_succ
theorem erase_rgP {W H : Nat} {G : Nat → Nat → Cel} (hw : Wf W H G) (x0 x1 : Int) (y : Nat) (p : Pn) : EqOn W H (eraseX W x0 x1 y p G) (wrt G (rg x0 x1 y) (fun _ _ => blk p)) := by
  unfold eraseX
  refine wr_dom hw (fun a b ha hb => ?_) (fun _ _ _ _ _ => rfl)
  rw [Bool.eq_iff_iff, rg_iff]
  simp [ha, and_assoc]
section
variable {R : Rm} {L : List Wn} {last : Int}
set_option maxHeartbeats 2000000 in
theorem rdFill (ok : DOk L last) (w : World) (h : RkAt w R L last) (v : Wn) (j : Nat) (hj : L[j]? = some v) (hne : ∀ i u, i < j → L[i]? = some u → u.n ≠ v.n) (x y ww hh : Int) (p : Pn) (hpl : placeB x y = true) (hrc : rectB ww hh = true) (hpn : penB p = true) :
    Calls Tryz.prog 34 #[.pointer (some ⟨R.d, 0, none⟩), .int .i64 v.n, .int .i64 x, .int .i64 y, .int .i64 ww, .int .i64 hh, p.agg] w (RkPost R L (updL L v.n (fun u => { u with G := fillJ v.W x y ww hh p v.G v.H })) last w (.int .i64 0)) := by
  have hv : v ∈ L := List.mem_of_getElem? hj
  have hb1 : Below w.heap.size w (w.alloc (.cells #[.int .i64 p.f, .int .i64 p.b, .bool p.bo, .bool p.un, .bool p.re] 33)) := (Below.refl _ _).alloc (Nat.le_refl _) _
  have HRa : Hid (RkAt (w.alloc (.cells #[.int .i64 p.f, .int .i64 p.b, .bool p.bo, .bool p.un, .bool p.re] 33)) R L last) := h.below hb1
  have P1 := pen_new w p 33
  have H : Hid (Calls Tryz.prog 79 #[.pointer (some ⟨R.d, 0, none⟩), .int .i64 v.n] (w.alloc (.cells #[.int .i64 p.f, .int .i64 p.b, .bool p.bo, .bool p.un, .bool p.re] 33)) fun e w' => e = .returned (.int .i64 j) ∧ w' = (w.alloc (.cells #[.int .i64 p.f, .int .i64 p.b, .bool p.bo, .bool p.un, .bool p.re] 33))) := rdAtIn ok _ HRa.out v j hj hne
  obtain ⟨p0, p1, p2, p3, p4⟩ := id P1
  have hx := placeB_iff.1 hpl
  have hr := rectB_iff.1 hrc
  have hr1 : Wd.inB ww 0 1000 = true := by simp [Wd.inB]; omega
  have hr2 : Wd.inB hh 0 1000 = true := by simp [Wd.inB]; omega
  have hjl : j < L.length := (List.getElem?_eq_some_iff.1 hj).1
  have hjl' : (j : Int) < (L.length : Int) := by omega
  have hj1 : ¬ (j : Int) < 0 := by omega
  have lg := h.lt (rown_g R hv)
  have h1 := (h.win v hv).h1
  have h2 := (h.win v hv).h2
  have sx : IntKind.i64.wrap (x + ww) = x + ww := wrap_id _ (by omega) (by omega)
  have sy : IntKind.i64.wrap (y + hh) = y + hh := wrap_id _ (by omega) (by omega)
  have Hj : Hid (L[j]? = some v) := hj
  clear h hj hne
  go_enter Tryz.func34, Tryz.ntmps34
  go_wp2_with (first | (go_at_call 79; refine (H.out).mono ?_; rintro e w' ⟨rfl, hw'⟩; replace hw' := hw'.symm; subst hw') | (go_at_call 80; refine (rdPlace _ _ _).mono ?_; rintro e w' ⟨rfl, hw'⟩; replace hw' := hw'.symm; subst hw') | (go_at_call 86; refine (Wd.refBetween _ _ _ _).mono ?_; rintro e w' ⟨rfl, hw'⟩; replace hw' := hw'.symm; subst hw'))
  go_at_call 81
  refine (rdPen p _).mono ?_
  rw [hpn]
  rintro e wb ⟨rfl, hbb⟩
  have HRb : Hid (RkAt wb R L last) := HRa.out.below hbb
  have P2 : PenAt wb w.heap.size 0 p := P1.same (hbb.block _ P1.lt)
  have K2 : Hid (Below w.heap.size w wb) := hb1.trans (hbb.mono hb1.size)
  clear p0 p1 p2 p3 p4 P1 hbb HRa hb1 H
  obtain ⟨g, cap, hl, hw, hfz, _⟩ := HRb.out.sl ok.one
  have d0 := HRb.out.d0
  rw [hl] at d0
  obtain ⟨c0, c1, c2, c3, c4, c5⟩ := hw j v Hj.out
  clear hw hl
  go_wp2_with fail
  go_loopw [21] (fun i w' => ∃ r : Nat, r ≤ v.H ∧ i = .int .i64 r ∧ Cels w' (R.c v.n) (R.g v.n) (R.cap v.n) v.W v.H (v.H * v.W) (fillJ v.W x y ww hh p v.G r) ∧ Keep (fun i => i = R.g v.n) wb w') (fun i _ => 30 - (intOf i).toNat)
  case atStart => exact ⟨0, by omega, rfl, HRb.out.win v hv, Keep.refl _ _⟩
  case round =>
    obtain ⟨r, hr', rfl, hC, hK⟩ := hrel
    have HC : Hid (Cels wr (R.c v.n) (R.g v.n) (R.cap v.n) v.W v.H (v.H * v.W) (fillJ v.W x y ww hh p v.G r)) := hC
    have HK : Hid (Keep (fun i => i = R.g v.n) wb wr) := hK
    have e1 := hC.c1
    obtain ⟨p0, p1, p2, p3, p4⟩ := P2.same (hK.block _ P2.lt (by omega))
    clear hC hK
    by_cases hlt : r < v.H
    · have hlt' : (r : Int) < (v.H : Int) := by omega
      by_cases hin : y ≤ r ∧ (r : Int) < y + hh
      · obtain ⟨hi1, hi2⟩ := id hin
        have He : Hid (fillJ v.W x y ww hh p v.G (r + 1) = eraseX v.W x (x + ww) r p (fillJ v.W x y ww hh p v.G r)) := if_pos hin
        clear hin
        go_wp2_with fail
        go_at_call 87
        refine (refErase _ _ _ _ _ _ _ x (x + ww) r p _ HC.out (fillJ_wf (HRb.out.wf v hv) r) hlt).mono ?_
        rintro e wc ⟨rfl, C2, K2'⟩
        have HC2 : Hid (Cels wc (R.c v.n) (R.g v.n) (R.cap v.n) v.W v.H (v.H * v.W) (fillJ v.W x y ww hh p v.G (r + 1))) := by
          show Cels _ _ _ _ _ _ _ _
          rw [He.out]
          exact C2.congr (erase_rgP (fillJ_wf (HRb.out.wf v hv) r) _ _ _ _).symm
        have HK2 : Hid (Keep (fun i => i = R.g v.n) wb wc) := HK.out.trans K2' (fun _ _ h => h)
        clear C2 K2' HC HK
        go_wp2_with fail
        go_roundw
        case rel => exact ⟨r + 1, by omega, by simp, HC2.out, HK2.out⟩
        case measure => simp [intOf]; omega
      · have He : Hid (fillJ v.W x y ww hh p v.G (r + 1) = fillJ v.W x y ww hh p v.G r) := if_neg hin
        have hcase : ¬ y ≤ (r : Int) ∨ (y ≤ (r : Int) ∧ ¬ (r : Int) < y + hh) := by omega
        clear hin
        rcases hcase with hi1 | ⟨hi1, hi2⟩
        all_goals
          go_wp2_with fail
          go_roundw
          case rel => exact ⟨r + 1, by omega, by simp, by rw [He.out]; exact HC.out, HK.out⟩
          case measure => simp [intOf]; omega
    · obtain rfl : r = v.H := by omega
      have HP : Hid (RkPost R L (updL L v.n (fun u => { u with G := fillJ v.W x y ww hh p v.G v.H })) last w (.int .i64 0) (.returned (.int .i64 0)) wr) := by
        obtain ⟨R', e1, D1, t1, k1, o1⟩ := HRb.out.setG ok hv v.W v.H (R.g v.n) (R.cap v.n) _ (fillJ_wf (HRb.out.wf v hv) v.H) HC.out (HK.out.mono (fun i e => .inr e)) (.inl rfl) (.int .i64 0)
        rw [updG_eq ok hv] at D1 o1
        exact ⟨R', e1, D1, t1, (Keep.below _ K2.out).trans k1 (fun _ _ h => h), fun i hi => (o1 i hi).imp id (fun h => by have := K2.out.size; omega)⟩
      go_wp2_with fail
      go_ret
      exact HP.out
end
end Go.Proofs.YtjlfibhbfdckpaaGreatDoor

/- The document's desk: windows are appended; Create. -/
namespace Go.Proofs.YtjlfibhbfdckpaaGreatDoor
open Go.RowKit
attribute [local go_sem ↓] Go.wp_at_zero Go.wp_at_succ
theorem rinfo_zero : (Tryz.prog.info? 107).bind (·.zero) = some (.agg #[.int .i64 0, .int .i64 0, .int .i64 0, .int .i64 0, .bool false, .pointer none]) := by kernel_rfl
theorem rinfo_size : (Tryz.prog.info? 107).map (·.size) = some 6 := by kernel_rfl
theorem rinfo_bytes : (Tryz.prog.info? 107).map (·.bytes) = some 48 := by kernel_rfl
theorem rinfo : ∃ i : TypeInfo, Tryz.prog.info? 107 = some i ∧ i.zero = some (.agg #[.int .i64 0, .int .i64 0, .int .i64 0, .int .i64 0, .bool false, .pointer none]) ∧ i.size = 6 ∧ i.bytes = 48 := by
  have h1 := rinfo_zero
  have h2 := rinfo_size
  have h3 := rinfo_bytes
  cases h : Tryz.prog.info? 107 with
  | none => rw [h] at h2; simp at h2
  | some i => rw [h] at h1 h2 h3; exact ⟨i, rfl, by simpa using h1, by simpa using h2, by simpa using h3⟩
abbrev rArr (v : Wn) (c : Nat) : Array Value := #[.int .i64 v.n, .int .i64 v.par, .int .i64 v.x, .int .i64 v.y, .bool v.sh, .pointer (some ⟨c, 0, none⟩)]
theorem list_append_win {ops : Array Oper} {rest : List Oper} {o : Oper} {a : Act} {Q : Exit → Act → World → Prop} (w : World) (hgd : o.guard = none) (s x : Operand)
    (ho : o.op = .call { callee := .builtin .append, args := #[s, x], argTypes := #[108, 108] }) (base : Nat) (v : Value) (c : Int → Nat) (L : List Wn) (u : Wn) (k : Nat) (hk : L.length = k) (hs : a.eval s = v)
    (hown : w.ownsRow base 107 6 v k (rFlat c L)) (b : Nat) (hx : a.eval x = .slice (some ⟨b, 0, none⟩) 1 1) (hb : w.heap[b]? = some (.cells (rArr u (c u.n)) 107)) (hL : k ≤ 1000) (hbase : base ≤ w.heap.size)
    (h : ∀ g cap w', w'.ownsRow base 107 6 (.slice (some ⟨g, 0, none⟩) (k + 1) cap) (k + 1) (rFlat c (L ++ [u])) → w.grownBy w' v.ownBlock → (v.ownBlock = some g ∨ g = w.heap.size) → g < w'.heap.size → wpList Tryz.prog ops Q rest (a.put o.dst (.slice (some ⟨g, 0, none⟩) (k + 1) cap)) w') :
    wpList Tryz.prog ops Q (o :: rest) a w := by
  obtain ⟨ti, i1, i2, i3, i4⟩ := rinfo
  refine wpList_append_lies w hgd s x 108 ho base 107 ti _ 6 48 Tryz.underlying108 i1 i2 i3 i4 rfl (by decide) v k (rFlat c L) hs hown ⟨b, 0, none⟩ 1 1 (rVals c u) hx rfl (World.news_of_block hb) (by simp [rVals, Value.oneCell']) (by decide) (by unfold maxLen; omega) (by omega) hbase w.heap.size rfl ?_
  intro g cap w' h1 h2 h3 h4
  rw [← rFlat_one c, ← rFlat_append] at h1
  exact h g cap w' h1 h2 h3 h4
theorem step_append_win {ops : Array Oper} {o : Oper} {a : Act} {K : Act → World → Prop} {Q : Exit → Act → World → Prop} {E : Prop} (w : World) (hgd : o.guard = none) (s x : Operand)
    (ho : o.op = .call { callee := .builtin .append, args := #[s, x], argTypes := #[108, 108] }) (base : Nat) (v : Value) (c : Int → Nat) (L : List Wn) (u : Wn) (k : Nat) (hk : L.length = k) (hs : a.eval s = v)
    (hown : w.ownsRow base 107 6 v k (rFlat c L)) (b : Nat) (hx : a.eval x = .slice (some ⟨b, 0, none⟩) 1 1) (hb : w.heap[b]? = some (.cells (rArr u (c u.n)) 107)) (hL : k ≤ 1000) (hbase : base ≤ w.heap.size)
    (h : ∀ g cap w', w'.ownsRow base 107 6 (.slice (some ⟨g, 0, none⟩) (k + 1) cap) (k + 1) (rFlat c (L ++ [u])) → w.grownBy w' v.ownBlock → (v.ownBlock = some g ∨ g = w.heap.size) → g < w'.heap.size → K (a.put o.dst (.slice (some ⟨g, 0, none⟩) (k + 1) cap)) w') :
    if Region.wanted o (yielded ops a.tmps) = true then Oper.wp Tryz.prog o a w K Q else E := by
  obtain ⟨ti, i1, i2, i3, i4⟩ := rinfo
  refine step_append_lies w hgd s x 108 ho base 107 ti _ 6 48 Tryz.underlying108 i1 i2 i3 i4 rfl (by decide) v k (rFlat c L) hs hown ⟨b, 0, none⟩ 1 1 (rVals c u) hx rfl (World.news_of_block hb) (by simp [rVals, Value.oneCell']) (by decide) (by unfold maxLen; omega) (by omega) hbase w.heap.size rfl ?_
  intro g cap w' h1 h2 h3 h4
  rw [← rFlat_one c, ← rFlat_append] at h1
  exact h g cap w' h1 h2 h3 h4
theorem ownsRow_mono {w : World} {base base' : Nat} {e : TypeId} {size : Nat} {v : Value} {n : Nat} {xs : List Value} (h : w.ownsRow base e size v n xs) (hb : base' ≤ base) : w.ownsRow base' e size v n xs := by
  refine ⟨h.1, ?_⟩
  rcases h.2 with h0 | ⟨g, cap, cur, h1, h2, h3⟩
  · exact .inl h0
  · exact .inr ⟨g, cap, cur, h1, Nat.le_trans hb h2, h3⟩
end Go.Proofs.YtjlfibhbfdckpaaGreatDoor
