/- Texts of the proof, one behind the other: RdD, RdE, RdF. -/
import Derived.Test.YtjlfibhbfdckpaaGreatDoorK22
import Derived.Test.YtjlfibhbfdckpaaGreatDoorK27
import Derived.Test.YtjlfibhbfdckpaaGreatDoorK29
import Derived.Test.YtjlfibhbfdckpaaGreatDoorK31
/- The document's desk: a window's cells; Shape, Scroll. -/
namespace Go.Proofs.YtjlfibhbfdckpaaGreatDoor
open Go.RowKit
attribute [local go_sem ↓] Go.wp_at_zero Go.wp_at_succ
section
variable {R : Rm} {L : List Wn} {last : Int}
theorem rFlat_upd (c : Int → Nat) (n : Int) (f : Wn → Wn) (hf : ∀ u, rVals c (f u) = rVals c u) : rFlat c (updL L n f) = rFlat c L := by
  unfold rFlat updL
  rw [List.flatMap_map]
  congr 1
  funext u
  show rVals c (if u.n = n then f u else u) = rVals c u
  split
  · exact hf u
  · rfl
def Rm.setG (R : Rm) (n : Int) (g cap : Nat) : Rm := { R with g := updI' R.g n g, cap := updI' R.cap n cap }
theorem rsetG_blk {n : Int} {g cap : Nat} {p : Pl} (hp : p ≠ .win n 1) (hk : ∀ m k, p = .win m k → k < 2) : (R.setG n g cap).blk p = R.blk p := by
  cases p with
  | top k => cases k <;> rfl
  | win m k =>
    have := hk m k rfl
    match k, this with
    | 0, _ => rfl
    | 1, _ =>
      show some (updI' R.g n g m) = some (R.g m)
      rw [updI'_other _ _ (fun e => hp (by rw [e]))]
theorem okR_k {p : Pl} (h : p.okR L) : ∀ m k, p = .win m k → k < 2 := by
  rintro m k rfl; exact h.1
theorem RkAt.setG {w w' : World} (h : RkAt w R L last) (ok : DOk L last) {v : Wn} (hv : v ∈ L) (W' H' g' cap' : Nat) (G' : Nat → Nat → Cel) (hwf : Wf W' H' G') (hc : Cels w' (R.c v.n) g' cap' W' H' (H' * W') G')
    (hk : Keep (fun i => i = R.c v.n ∨ i = R.g v.n) w w') (hg : g' = R.g v.n ∨ w.heap.size ≤ g') (r : Value) : RkPost R L (updL L v.n (fun u => { u with W := W', H := H', G := G' })) last w r (.returned r) w' := by
  obtain ⟨rk, K, T⟩ := ok.tree
  have hok := okR_upd (L := L) (n := v.n) (f := fun u => { u with W := W', H := H', G := G' }) (fun u _ e => e)
  have kp : ∀ (p : Pl) (i : Nat), p.okR L → R.blk p = some i → p ≠ .win v.n 0 → p ≠ .win v.n 1 → w'.heap[i]? = w.heap[i]? := fun p i hp e n1 n2 => hk.block i (h.lt ⟨p, hp, e⟩) (by
    rintro (e' | e')
    · exact h.ne (p := p) (q := .win v.n 0) hp ⟨by omega, v, hv, rfl⟩ e rfl n1 e'
    · exact h.ne (p := p) (q := .win v.n 1) hp ⟨by omega, v, hv, rfl⟩ e rfl n2 e')
  have hb1 : (R.setG v.n g' cap').blk (.win v.n 1) = some g' := by show some (updI' R.g v.n g' v.n) = _; rw [updI'_same]
  have hown : ∀ i, (R.setG v.n g' cap').own (updL L v.n (fun u => { u with W := W', H := H', G := G' })) i → R.own L i ∨ w.heap.size ≤ i := fun i ⟨p, hp, e⟩ => by
    have hp' := (hok p).1 hp
    by_cases e1 : p = .win v.n 1
    · subst e1
      rw [hb1] at e
      obtain rfl : g' = i := by simpa using e
      rcases hg with rfl | hg
      · exact .inl (rown_g R hv)
      · exact .inr hg
    · exact .inl ⟨p, hp', by rw [← rsetG_blk e1 (okR_k hp')]; exact e⟩
  have h0 := h.two _ (rown_d R L)
  have h1 := h.lt (rown_d R L)
  refine ⟨R.setG v.n g' cap', rfl, ⟨(kp (.top 0) _ (show 0 < 2 by omega) rfl (by simp) (by simp)).trans h.blk, ?_, ?_, ?_, ?_, ?_⟩, rfl, hk.mono (fun i e => by rcases e with rfl | rfl; exact rown_c R hv; exact rown_g R hv), hown⟩
  · show w'.ownsRow _ _ _ R.l _ (rFlat R.c _)
    rw [rFlat_upd R.c v.n (fun u => { u with W := W', H := H', G := G' }) (fun _ => rfl), show (updL L v.n (fun u => { u with W := W', H := H', G := G' })).length = L.length by simp [updL]]
    exact ownsRow_same h.row (fun i hi => kp (.top 1) i (show 1 < 2 by omega) hi (by simp) (by simp))
  · intro u hu
    show Cels w' (R.c u.n) (updI' R.g v.n g' u.n) (updI' R.cap v.n cap' u.n) u.W u.H (u.H * u.W) u.G
    rcases mem_updL hv rfl u hu T.nd with rfl | ⟨huL, hne⟩
    · show Cels w' (R.c v.n) (updI' R.g v.n g' v.n) (updI' R.cap v.n cap' v.n) W' H' (H' * W') G'
      rw [updI'_same, updI'_same]; exact hc
    · rw [updI'_other _ _ hne, updI'_other _ _ hne]
      have hne' : ∀ k j, (Pl.win u.n k) ≠ .win v.n j := fun k j e => by injection e with e1; exact hne e1
      exact (h.win u huL).same (kp (.win u.n 0) _ ⟨by omega, u, huL, rfl⟩ rfl (hne' _ _) (hne' _ _)) (kp (.win u.n 1) _ ⟨by omega, u, huL, rfl⟩ rfl (hne' _ _) (hne' _ _))
  · intro u hu
    rcases mem_updL hv rfl u hu T.nd with rfl | ⟨huL, hne⟩
    · exact hwf
    · exact h.wf u huL
  · intro p q i hp hq e1 e2
    have hp' := (hok p).1 hp
    have hq' := (hok q).1 hq
    have old : ∀ p : Pl, p.okR L → p ≠ .win v.n 1 → (R.setG v.n g' cap').blk p = R.blk p := fun p hp hn => rsetG_blk hn (okR_k hp)
    by_cases c1 : p = .win v.n 1
    · by_cases c2 : q = .win v.n 1
      · rw [c1, c2]
      · rw [c1, hb1] at e1
        obtain rfl : g' = i := by simpa using e1
        rw [old q hq' c2] at e2
        rcases hg with rfl | hg
        · rw [c1]; exact h.inj _ _ _ ⟨by omega, v, hv, rfl⟩ hq' rfl e2
        · have := h.lt ⟨q, hq', e2⟩; omega
    · by_cases c2 : q = .win v.n 1
      · rw [c2, hb1] at e2
        obtain rfl : g' = i := by simpa using e2
        rw [old p hp' c1] at e1
        rcases hg with rfl | hg
        · rw [c2]; exact h.inj _ _ _ hp' ⟨by omega, v, hv, rfl⟩ e1 rfl
        · have := h.lt ⟨p, hp', e1⟩; omega
      · rw [old p hp' c1] at e1
        rw [old q hq' c2] at e2
        exact h.inj p q i hp' hq' e1 e2
  · intro i hi
    rcases hown i hi with e | e
    · exact h.two i e
    · omega
theorem updG_eq (ok : DOk L last) {v : Wn} (hv : v ∈ L) {G : Nat → Nat → Cel} : updL L v.n (fun u => { u with W := v.W, H := v.H, G := G }) = updL L v.n (fun u => { u with G := G }) := by
  obtain ⟨rk, K, T⟩ := ok.tree
  unfold updL
  refine List.map_congr_left fun u hu => ?_
  by_cases e : u.n = v.n
  · obtain rfl := nd_inj T.nd hu hv e
    rfl
  · rw [if_neg e, if_neg e]
set_option maxHeartbeats 1000000 in
theorem rdShape (ok : DOk L last) (w : World) (h : RkAt w R L last) (v : Wn) (j : Nat) (hj : L[j]? = some v) (hne : ∀ i u, i < j → L[i]? = some u → u.n ≠ v.n) (hj0 : j ≠ 0) (W' H' : Nat) (hs : sizeB W' H' = true) :
    Calls Tryz.prog 99 #[.pointer (some ⟨R.d, 0, none⟩), .int .i64 v.n, .int .i64 W', .int .i64 H'] w (RkPost R L (updL L v.n (fun u => { u with W := W', H := H', G := sizedG v.W v.H W' v.G })) last w (.int .i64 0)) := by
  have HR : Hid (RkAt w R L last) := h
  have hv : v ∈ L := List.mem_of_getElem? hj
  have H : Hid (Calls Tryz.prog 143 #[.pointer (some ⟨R.d, 0, none⟩), .int .i64 v.n] w fun e w' => e = .returned (.tuple #[.int .i64 j, .int .i64 0]) ∧ w' = w) := rdChild ok w h v j hj hne hj0
  have d0 := h.d0
  obtain ⟨g, cap, hl, hw, hfz, _⟩ := h.sl ok.one
  rw [hl] at d0
  obtain ⟨c0, c1, c2, c3, c4, c5⟩ := hw j v hj
  have hjl : j < L.length := (List.getElem?_eq_some_iff.1 hj).1
  have hjl' : (j : Int) < (L.length : Int) := by omega
  have hz := sizeB_iff.1 hs
  clear h hw hj hne hl
  go_enter Tryz.func99, Tryz.ntmps99
  go_wp2_with (first | (go_at_call 143; refine (H.out).mono ?_; rintro e w' ⟨rfl, hw'⟩; replace hw' := hw'.symm; subst hw') | (go_at_call 73; refine (refSize _ _ _).mono ?_; rintro e w' ⟨rfl, hw'⟩; replace hw' := hw'.symm; subst hw'))
  go_at_call 90
  refine (refSized (R.c v.n) (R.g v.n) (R.cap v.n) v.W v.H _ W' H' v.G _ (HR.out.win v hv) (HR.out.wf v hv) (by omega) (by omega) (by omega) (by omega)).mono ?_
  rintro e wa ⟨g', cap', rfl, C1, K1, hg⟩
  have HP : Hid (RkPost R L (updL L v.n (fun u => { u with W := W', H := H', G := sizedG v.W v.H W' v.G })) last w (.int .i64 0) (.returned (.int .i64 0)) wa) := HR.out.setG ok hv W' H' g' cap' _ (HR.out.wf v hv).sized C1 (K1.mono (fun i e => .inl e)) (.inr hg) _
  clear C1 K1 hg HR
  go_wp2_with fail
  go_ret
  exact HP.out
set_option maxHeartbeats 1000000 in
theorem rdScroll (ok : DOk L last) (w : World) (h : RkAt w R L last) (v : Wn) (j : Nat) (hj : L[j]? = some v) (hne : ∀ i u, i < j → L[i]? = some u → u.n ≠ v.n) (n : Int) :
    Calls Tryz.prog 36 #[.pointer (some ⟨R.d, 0, none⟩), .int .i64 v.n, .int .i64 n] w (RkPost R L (updL L v.n (fun u => { u with G := scrollG 0 ((v.H : Int) - 1) n Pn.plain v.G })) last w (.int .i64 0)) := by
  have HR : Hid (RkAt w R L last) := h
  have hv : v ∈ L := List.mem_of_getElem? hj
  have H : Hid (Calls Tryz.prog 79 #[.pointer (some ⟨R.d, 0, none⟩), .int .i64 v.n] w fun e w' => e = .returned (.int .i64 j) ∧ w' = w) := rdAtIn ok w h v j hj hne
  have d0 := h.d0
  obtain ⟨g, cap, hl, hw, hfz, _⟩ := h.sl ok.one
  rw [hl] at d0
  obtain ⟨c0, c1, c2, c3, c4, c5⟩ := hw j v hj
  have hjl : j < L.length := (List.getElem?_eq_some_iff.1 hj).1
  have hjl' : (j : Int) < (L.length : Int) := by omega
  have hj1 : ¬ (j : Int) < 0 := by omega
  have e1 := (h.win v hv).c1
  have h1 := (h.win v hv).h1
  have h2 := (h.win v hv).h2
  clear h hw hj hne hl
  go_enter Tryz.func36, Tryz.ntmps36
  go_wp2_with (first | (go_at_call 79; refine (H.out).mono ?_; rintro e w' ⟨rfl, hw'⟩; replace hw' := hw'.symm; subst hw'))
  have hs := refScroll (R.c v.n) (R.g v.n) (R.cap v.n) v.W v.H _ v.G 0 (v.H - 1) n Pn.plain w (HR.out.win v hv) (by omega)
  rw [show ((v.H - 1 : Nat) : Int) = (v.H : Int) - 1 by omega] at hs
  go_at_call 89
  refine hs.mono ?_
  rintro e wa ⟨g', cap', rfl, C1, K1, hg⟩
  have HP : Hid (RkPost R L (updL L v.n (fun u => { u with G := scrollG 0 ((v.H : Int) - 1) n Pn.plain v.G })) last w (.int .i64 0) (.returned (.int .i64 0)) wa) := by
    show RkPost _ _ _ _ _ _ _ _
    rw [← updG_eq ok hv]
    exact HR.out.setG ok hv v.W v.H g' cap' _ ((HR.out.wf v hv).scroll 0 _ n _ (by omega) (by omega)) C1 (K1.mono (fun i e => .inl e)) (.inr hg) _
  clear C1 K1 hg HR hs
  go_wp2_with fail
  go_ret
  exact HP.out
set_option maxHeartbeats 1000000 in
theorem rdResize (ok : DOk L last) (w : World) (h : RkAt w R L last) (v : Wn) (hj : L[0]? = some v) (W' H' : Nat) (hs : sizeB W' H' = true) :
    Calls Tryz.prog 37 #[.pointer (some ⟨R.d, 0, none⟩), .int .i64 W', .int .i64 H'] w (RkPost R L (updL L v.n (fun u => { u with W := W', H := H', G := sizedG v.W v.H W' v.G })) last w (.int .i64 0)) := by
  have HR : Hid (RkAt w R L last) := h
  have hv : v ∈ L := List.mem_of_getElem? hj
  have d0 := h.d0
  obtain ⟨g, cap, hl, hw, hfz, _⟩ := h.sl ok.one
  rw [hl] at d0
  obtain ⟨c0, c1, c2, c3, c4, c5⟩ := hw 0 v hj
  rw [Nat.zero_mul] at c0 c1 c2 c3 c4 c5
  have hjl := ok.one
  have hjl' : (0 : Int) < (L.length : Int) := by omega
  have hz := sizeB_iff.1 hs
  clear h hw hj hl
  go_enter Tryz.func37, Tryz.ntmps37
  go_wp2_with (first | (go_at_call 73; refine (refSize _ _ _).mono ?_; rintro e w' ⟨rfl, hw'⟩; replace hw' := hw'.symm; subst hw'))
  go_at_call 90
  refine (refSized (R.c v.n) (R.g v.n) (R.cap v.n) v.W v.H _ W' H' v.G _ (HR.out.win v hv) (HR.out.wf v hv) (by omega) (by omega) (by omega) (by omega)).mono ?_
  rintro e wa ⟨g', cap', rfl, C1, K1, hg⟩
  have HP : Hid (RkPost R L (updL L v.n (fun u => { u with W := W', H := H', G := sizedG v.W v.H W' v.G })) last w (.int .i64 0) (.returned (.int .i64 0)) wa) := HR.out.setG ok hv W' H' g' cap' _ (HR.out.wf v hv).sized C1 (K1.mono (fun i e => .inl e)) (.inr hg) _
  clear C1 K1 hg HR
  go_wp2_with fail
  go_ret
  exact HP.out
end
end Go.Proofs.YtjlfibhbfdckpaaGreatDoor

/- The document's desk: calls that fail. -/
namespace Go.Proofs.YtjlfibhbfdckpaaGreatDoor
open Go.RowKit
attribute [local go_sem ↓] Go.wp_at_zero Go.wp_at_succ
section
variable {R : Rm} {L : List Wn} {last : Int}
theorem rdShowNo (ok : DOk L last) (w : World) (h : RkAt w R L last) (n : Int) (b : Bool) (he : childE L n ≠ 0) :
    Calls Tryz.prog 101 #[.pointer (some ⟨R.d, 0, none⟩), .int .i64 n, .bool b] w fun e w' => e = .returned (.int .i64 (childE L n)) ∧ w' = w := by
  have H : Hid (Calls Tryz.prog 143 #[.pointer (some ⟨R.d, 0, none⟩), .int .i64 n] w fun e w' => e = .returned (.tuple #[.int .i64 (-1), .int .i64 (childE L n)]) ∧ w' = w) := rdChildNo ok w h n he
  clear h
  generalize childE L n = er at *
  go_enter Tryz.func101, Tryz.ntmps101
  go_wp2_with (first | (go_at_call 143; refine (H.out).mono ?_; rintro e w' ⟨rfl, hw'⟩; replace hw' := hw'.symm; subst hw'))
  go_ret
  exact ⟨rfl, rfl⟩
theorem rdShowNil (w : World) (n : Int) (b : Bool) :
    Calls Tryz.prog 101 #[.pointer none, .int .i64 n, .bool b] w fun e w' => e = .returned (.int .i64 1) ∧ w' = w := by
  go_enter Tryz.func101, Tryz.ntmps101
  go_wp2_with (first | (go_at_call 143; refine (rdChildNil _ _).mono ?_; rintro e w' ⟨rfl, hw'⟩; replace hw' := hw'.symm; subst hw'))
  go_ret
  exact ⟨rfl, rfl⟩
theorem rdMoveNo (ok : DOk L last) (w : World) (h : RkAt w R L last) (n : Int) (x y : Int) (he : childE L n ≠ 0) :
    Calls Tryz.prog 98 #[.pointer (some ⟨R.d, 0, none⟩), .int .i64 n, .int .i64 x, .int .i64 y] w fun e w' => e = .returned (.int .i64 (childE L n)) ∧ w' = w := by
  have H : Hid (Calls Tryz.prog 143 #[.pointer (some ⟨R.d, 0, none⟩), .int .i64 n] w fun e w' => e = .returned (.tuple #[.int .i64 (-1), .int .i64 (childE L n)]) ∧ w' = w) := rdChildNo ok w h n he
  clear h
  generalize childE L n = er at *
  go_enter Tryz.func98, Tryz.ntmps98
  go_wp2_with (first | (go_at_call 143; refine (H.out).mono ?_; rintro e w' ⟨rfl, hw'⟩; replace hw' := hw'.symm; subst hw'))
  go_ret
  exact ⟨rfl, rfl⟩
theorem rdMoveNil (w : World) (n : Int) (x y : Int) :
    Calls Tryz.prog 98 #[.pointer none, .int .i64 n, .int .i64 x, .int .i64 y] w fun e w' => e = .returned (.int .i64 1) ∧ w' = w := by
  go_enter Tryz.func98, Tryz.ntmps98
  go_wp2_with (first | (go_at_call 143; refine (rdChildNil _ _).mono ?_; rintro e w' ⟨rfl, hw'⟩; replace hw' := hw'.symm; subst hw'))
  go_ret
  exact ⟨rfl, rfl⟩
theorem rdShapeNo (ok : DOk L last) (w : World) (h : RkAt w R L last) (n : Int) (x y : Int) (he : childE L n ≠ 0) :
    Calls Tryz.prog 99 #[.pointer (some ⟨R.d, 0, none⟩), .int .i64 n, .int .i64 x, .int .i64 y] w fun e w' => e = .returned (.int .i64 (childE L n)) ∧ w' = w := by
  have H : Hid (Calls Tryz.prog 143 #[.pointer (some ⟨R.d, 0, none⟩), .int .i64 n] w fun e w' => e = .returned (.tuple #[.int .i64 (-1), .int .i64 (childE L n)]) ∧ w' = w) := rdChildNo ok w h n he
  clear h
  generalize childE L n = er at *
  go_enter Tryz.func99, Tryz.ntmps99
  go_wp2_with (first | (go_at_call 143; refine (H.out).mono ?_; rintro e w' ⟨rfl, hw'⟩; replace hw' := hw'.symm; subst hw'))
  go_ret
  exact ⟨rfl, rfl⟩
theorem rdShapeNil (w : World) (n : Int) (x y : Int) :
    Calls Tryz.prog 99 #[.pointer none, .int .i64 n, .int .i64 x, .int .i64 y] w fun e w' => e = .returned (.int .i64 1) ∧ w' = w := by
  go_enter Tryz.func99, Tryz.ntmps99
  go_wp2_with (first | (go_at_call 143; refine (rdChildNil _ _).mono ?_; rintro e w' ⟨rfl, hw'⟩; replace hw' := hw'.symm; subst hw'))
  go_ret
  exact ⟨rfl, rfl⟩
theorem rdRaiseNo (ok : DOk L last) (w : World) (h : RkAt w R L last) (n : Int) (b : Bool) (he : childE L n ≠ 0) :
    Calls Tryz.prog 100 #[.pointer (some ⟨R.d, 0, none⟩), .int .i64 n, .bool b] w fun e w' => e = .returned (.int .i64 (childE L n)) ∧ w' = w := by
  have H : Hid (Calls Tryz.prog 143 #[.pointer (some ⟨R.d, 0, none⟩), .int .i64 n] w fun e w' => e = .returned (.tuple #[.int .i64 (-1), .int .i64 (childE L n)]) ∧ w' = w) := rdChildNo ok w h n he
  clear h
  generalize childE L n = er at *
  go_enter Tryz.func100, Tryz.ntmps100
  go_wp2_with (first | (go_at_call 143; refine (H.out).mono ?_; rintro e w' ⟨rfl, hw'⟩; replace hw' := hw'.symm; subst hw'))
  go_ret
  exact ⟨rfl, rfl⟩
theorem rdRaiseNil (w : World) (n : Int) (b : Bool) :
    Calls Tryz.prog 100 #[.pointer none, .int .i64 n, .bool b] w fun e w' => e = .returned (.int .i64 1) ∧ w' = w := by
  go_enter Tryz.func100, Tryz.ntmps100
  go_wp2_with (first | (go_at_call 143; refine (rdChildNil _ _).mono ?_; rintro e w' ⟨rfl, hw'⟩; replace hw' := hw'.symm; subst hw'))
  go_ret
  exact ⟨rfl, rfl⟩
theorem rdDeleteNo (ok : DOk L last) (w : World) (h : RkAt w R L last) (n : Int)  (he : childE L n ≠ 0) :
    Calls Tryz.prog 97 #[.pointer (some ⟨R.d, 0, none⟩), .int .i64 n] w fun e w' => e = .returned (.int .i64 (childE L n)) ∧ w' = w := by
  have H : Hid (Calls Tryz.prog 143 #[.pointer (some ⟨R.d, 0, none⟩), .int .i64 n] w fun e w' => e = .returned (.tuple #[.int .i64 (-1), .int .i64 (childE L n)]) ∧ w' = w) := rdChildNo ok w h n he
  clear h
  generalize childE L n = er at *
  go_enter Tryz.func97, Tryz.ntmps97
  go_wp2_with (first | (go_at_call 143; refine (H.out).mono ?_; rintro e w' ⟨rfl, hw'⟩; replace hw' := hw'.symm; subst hw'))
  go_ret
  exact ⟨rfl, rfl⟩
theorem rdDeleteNil (w : World) (n : Int)  :
    Calls Tryz.prog 97 #[.pointer none, .int .i64 n] w fun e w' => e = .returned (.int .i64 1) ∧ w' = w := by
  go_enter Tryz.func97, Tryz.ntmps97
  go_wp2_with (first | (go_at_call 143; refine (rdChildNil _ _).mono ?_; rintro e w' ⟨rfl, hw'⟩; replace hw' := hw'.symm; subst hw'))
  go_ret
  exact ⟨rfl, rfl⟩
theorem rdMoveOff (ok : DOk L last) (w : World) (h : RkAt w R L last) (v : Wn) (j : Nat) (hj : L[j]? = some v) (hne : ∀ i u, i < j → L[i]? = some u → u.n ≠ v.n) (hj0 : j ≠ 0) (x y : Int) (hp : placeB x y = false) :
    Calls Tryz.prog 98 #[.pointer (some ⟨R.d, 0, none⟩), .int .i64 v.n, .int .i64 x, .int .i64 y] w fun e w' => e = .returned (.int .i64 4) ∧ w' = w := by
  have H : Hid (Calls Tryz.prog 143 #[.pointer (some ⟨R.d, 0, none⟩), .int .i64 v.n] w fun e w' => e = .returned (.tuple #[.int .i64 j, .int .i64 0]) ∧ w' = w) := rdChild ok w h v j hj hne hj0
  clear h hj hne
  go_enter Tryz.func98, Tryz.ntmps98
  go_wp2_with (first | (go_at_call 143; refine (H.out).mono ?_; rintro e w' ⟨rfl, hw'⟩; replace hw' := hw'.symm; subst hw') | (go_at_call 80; refine (rdPlace _ _ _).mono ?_; rintro e w' ⟨rfl, hw'⟩; replace hw' := hw'.symm; subst hw'))
  go_ret
  exact ⟨rfl, rfl⟩
theorem rdShapeOff (ok : DOk L last) (w : World) (h : RkAt w R L last) (v : Wn) (j : Nat) (hj : L[j]? = some v) (hne : ∀ i u, i < j → L[i]? = some u → u.n ≠ v.n) (hj0 : j ≠ 0) (x y : Int) (hp : sizeB x y = false) :
    Calls Tryz.prog 99 #[.pointer (some ⟨R.d, 0, none⟩), .int .i64 v.n, .int .i64 x, .int .i64 y] w fun e w' => e = .returned (.int .i64 3) ∧ w' = w := by
  have H : Hid (Calls Tryz.prog 143 #[.pointer (some ⟨R.d, 0, none⟩), .int .i64 v.n] w fun e w' => e = .returned (.tuple #[.int .i64 j, .int .i64 0]) ∧ w' = w) := rdChild ok w h v j hj hne hj0
  clear h hj hne
  go_enter Tryz.func99, Tryz.ntmps99
  go_wp2_with (first | (go_at_call 143; refine (H.out).mono ?_; rintro e w' ⟨rfl, hw'⟩; replace hw' := hw'.symm; subst hw') | (go_at_call 73; refine (refSize _ _ _).mono ?_; rintro e w' ⟨rfl, hw'⟩; replace hw' := hw'.symm; subst hw'))
  go_ret
  exact ⟨rfl, rfl⟩
theorem rdScrollNo (ok : DOk L last) (w : World) (h : RkAt w R L last) (n k : Int) (hn : hasN L n = false) :
    Calls Tryz.prog 36 #[.pointer (some ⟨R.d, 0, none⟩), .int .i64 n, .int .i64 k] w fun e w' => e = .returned (.int .i64 1) ∧ w' = w := by
  have H : Hid (Calls Tryz.prog 79 #[.pointer (some ⟨R.d, 0, none⟩), .int .i64 n] w fun e w' => e = .returned (.int .i64 (-1)) ∧ w' = w) := rdAtNo ok w h n hn
  clear h
  go_enter Tryz.func36, Tryz.ntmps36
  go_wp2_with (first | (go_at_call 79; refine (H.out).mono ?_; rintro e w' ⟨rfl, hw'⟩; replace hw' := hw'.symm; subst hw'))
  go_ret
  exact ⟨rfl, rfl⟩
theorem rdScrollNil (w : World) (n k : Int) :
    Calls Tryz.prog 36 #[.pointer none, .int .i64 n, .int .i64 k] w fun e w' => e = .returned (.int .i64 1) ∧ w' = w := by
  go_enter Tryz.func36, Tryz.ntmps36
  go_wp2_with (first | (go_at_call 79; refine (rdAtNil _ _).mono ?_; rintro e w' ⟨rfl, hw'⟩; replace hw' := hw'.symm; subst hw'))
  go_ret
  exact ⟨rfl, rfl⟩
theorem rdResizeNo (w : World) (d : Nat) (x y : Int) (hs : sizeB x y = false) :
    Calls Tryz.prog 37 #[.pointer (some ⟨d, 0, none⟩), .int .i64 x, .int .i64 y] w fun e w' => e = .returned (.int .i64 3) ∧ w' = w := by
  go_enter Tryz.func37, Tryz.ntmps37
  go_wp2_with (first | (go_at_call 73; refine (refSize _ _ _).mono ?_; rintro e w' ⟨rfl, hw'⟩; replace hw' := hw'.symm; subst hw'))
  go_ret
  exact ⟨rfl, rfl⟩
theorem rdResizeNil (w : World) (x y : Int) :
    Calls Tryz.prog 37 #[.pointer none, .int .i64 x, .int .i64 y] w fun e w' => e = .returned (.int .i64 1) ∧ w' = w := by
  go_enter Tryz.func37, Tryz.ntmps37
  go_wp2_with fail
  go_ret
  exact ⟨rfl, rfl⟩
end
end Go.Proofs.YtjlfibhbfdckpaaGreatDoor

/- The document's desk: Fill. -/
namespace Go.Proofs.YtjlfibhbfdckpaaGreatDoor
open Go.RowKit
attribute [local go_sem ↓] Go.wp_at_zero Go.wp_at_succ
theorem erase_rgP {W H : Nat} {G : Nat → Nat → Cel} (hw : Wf W H G) (x0 x1 : Int) (y : Nat) (p : Pn) : EqOn W H (eraseX W x0 x1 y p G) (wrt G (rg x0 x1 y) (fun _ _ => blk p)) := by
  unfold eraseX
  refine wr_dom hw (fun a b ha hb => ?_) (fun _ _ _ _ _ => rfl)
  rw [Bool.eq_iff_iff, rg_iff]
  simp [ha, and_assoc]
section
variable {R : Rm} {L : List Wn} {last : Int}
set_option maxHeartbeats 2000000 in
theorem rdFill (ok : DOk L last) (w : World) (h : RkAt w R L last) (v : Wn) (j : Nat) (hj : L[j]? = some v) (hne : ∀ i u, i < j → L[i]? = some u → u.n ≠ v.n) (x y ww hh : Int) (p : Pn) (hpl : placeB x y = true) (hrc : rectB ww hh = true) (hpn : penB p = true) :
    Calls Tryz.prog 34 #[.pointer (some ⟨R.d, 0, none⟩), .int .i64 v.n, .int .i64 x, .int .i64 y, .int .i64 ww, .int .i64 hh, p.agg] w (RkPost R L (updL L v.n (fun u => { u with G := fillJ v.W x y ww hh p v.G v.H })) last w (.int .i64 0)) := by
  have hv : v ∈ L := List.mem_of_getElem? hj
  have hb1 : Below w.heap.size w (w.alloc (.cells #[.int .i64 p.f, .int .i64 p.b, .bool p.bo, .bool p.un, .bool p.re] 33)) := (Below.refl _ _).alloc (Nat.le_refl _) _
  have HRa : Hid (RkAt (w.alloc (.cells #[.int .i64 p.f, .int .i64 p.b, .bool p.bo, .bool p.un, .bool p.re] 33)) R L last) := h.below hb1
  have P1 := pen_new w p 33
  have H : Hid (Calls Tryz.prog 79 #[.pointer (some ⟨R.d, 0, none⟩), .int .i64 v.n] (w.alloc (.cells #[.int .i64 p.f, .int .i64 p.b, .bool p.bo, .bool p.un, .bool p.re] 33)) fun e w' => e = .returned (.int .i64 j) ∧ w' = (w.alloc (.cells #[.int .i64 p.f, .int .i64 p.b, .bool p.bo, .bool p.un, .bool p.re] 33))) := rdAtIn ok _ HRa.out v j hj hne
  obtain ⟨p0, p1, p2, p3, p4⟩ := id P1
  have hx := placeB_iff.1 hpl
  have hr := rectB_iff.1 hrc
  have hr1 : Wd.inB ww 0 1000 = true := by simp [Wd.inB]; omega
  have hr2 : Wd.inB hh 0 1000 = true := by simp [Wd.inB]; omega
  have hjl : j < L.length := (List.getElem?_eq_some_iff.1 hj).1
  have hjl' : (j : Int) < (L.length : Int) := by omega
  have hj1 : ¬ (j : Int) < 0 := by omega
  have lg := h.lt (rown_g R hv)
  have h1 := (h.win v hv).h1
  have h2 := (h.win v hv).h2
  have sx : IntKind.i64.wrap (x + ww) = x + ww := wrap_id _ (by omega) (by omega)
  have sy : IntKind.i64.wrap (y + hh) = y + hh := wrap_id _ (by omega) (by omega)
  have Hj : Hid (L[j]? = some v) := hj
  clear h hj hne
  go_enter Tryz.func34, Tryz.ntmps34
  go_wp2_with (first | (go_at_call 79; refine (H.out).mono ?_; rintro e w' ⟨rfl, hw'⟩; replace hw' := hw'.symm; subst hw') | (go_at_call 80; refine (rdPlace _ _ _).mono ?_; rintro e w' ⟨rfl, hw'⟩; replace hw' := hw'.symm; subst hw') | (go_at_call 86; refine (Wd.refBetween _ _ _ _).mono ?_; rintro e w' ⟨rfl, hw'⟩; replace hw' := hw'.symm; subst hw'))
  go_at_call 81
  refine (rdPen p _).mono ?_
  rw [hpn]
  rintro e wb ⟨rfl, hbb⟩
  have HRb : Hid (RkAt wb R L last) := HRa.out.below hbb
  have P2 : PenAt wb w.heap.size 0 p := P1.same (hbb.block _ P1.lt)
  have K2 : Hid (Below w.heap.size w wb) := hb1.trans (hbb.mono hb1.size)
  clear p0 p1 p2 p3 p4 P1 hbb HRa hb1 H
  obtain ⟨g, cap, hl, hw, hfz, _⟩ := HRb.out.sl ok.one
  have d0 := HRb.out.d0
  rw [hl] at d0
  obtain ⟨c0, c1, c2, c3, c4, c5⟩ := hw j v Hj.out
  clear hw hl
  go_wp2_with fail
  go_loopw [21] (fun i w' => ∃ r : Nat, r ≤ v.H ∧ i = .int .i64 r ∧ Cels w' (R.c v.n) (R.g v.n) (R.cap v.n) v.W v.H (v.H * v.W) (fillJ v.W x y ww hh p v.G r) ∧ Keep (fun i => i = R.g v.n) wb w') (fun i _ => 30 - (intOf i).toNat)
  case atStart => exact ⟨0, by omega, rfl, HRb.out.win v hv, Keep.refl _ _⟩
  case round =>
    obtain ⟨r, hr', rfl, hC, hK⟩ := hrel
    have HC : Hid (Cels wr (R.c v.n) (R.g v.n) (R.cap v.n) v.W v.H (v.H * v.W) (fillJ v.W x y ww hh p v.G r)) := hC
    have HK : Hid (Keep (fun i => i = R.g v.n) wb wr) := hK
    have e1 := hC.c1
    obtain ⟨p0, p1, p2, p3, p4⟩ := P2.same (hK.block _ P2.lt (by omega))
    clear hC hK
    by_cases hlt : r < v.H
    · have hlt' : (r : Int) < (v.H : Int) := by omega
      by_cases hin : y ≤ r ∧ (r : Int) < y + hh
      · obtain ⟨hi1, hi2⟩ := id hin
        have He : Hid (fillJ v.W x y ww hh p v.G (r + 1) = eraseX v.W x (x + ww) r p (fillJ v.W x y ww hh p v.G r)) := if_pos hin
        clear hin
        go_wp2_with fail
        go_at_call 87
        refine (refErase _ _ _ _ _ _ _ x (x + ww) r p _ HC.out (fillJ_wf (HRb.out.wf v hv) r) hlt).mono ?_
        rintro e wc ⟨rfl, C2, K2'⟩
        have HC2 : Hid (Cels wc (R.c v.n) (R.g v.n) (R.cap v.n) v.W v.H (v.H * v.W) (fillJ v.W x y ww hh p v.G (r + 1))) := by
          show Cels _ _ _ _ _ _ _ _
          rw [He.out]
          exact C2.congr (erase_rgP (fillJ_wf (HRb.out.wf v hv) r) _ _ _ _).symm
        have HK2 : Hid (Keep (fun i => i = R.g v.n) wb wc) := HK.out.trans K2' (fun _ _ h => h)
        clear C2 K2' HC HK
        go_wp2_with fail
        go_roundw
        case rel => exact ⟨r + 1, by omega, by simp, HC2.out, HK2.out⟩
        case measure => simp [intOf]; omega
      · have He : Hid (fillJ v.W x y ww hh p v.G (r + 1) = fillJ v.W x y ww hh p v.G r) := if_neg hin
        have hcase : ¬ y ≤ (r : Int) ∨ (y ≤ (r : Int) ∧ ¬ (r : Int) < y + hh) := by omega
        clear hin
        rcases hcase with hi1 | ⟨hi1, hi2⟩
        all_goals
          go_wp2_with fail
          go_roundw
          case rel => exact ⟨r + 1, by omega, by simp, by rw [He.out]; exact HC.out, HK.out⟩
          case measure => simp [intOf]; omega
    · obtain rfl : r = v.H := by omega
      have HP : Hid (RkPost R L (updL L v.n (fun u => { u with G := fillJ v.W x y ww hh p v.G v.H })) last w (.int .i64 0) (.returned (.int .i64 0)) wr) := by
        obtain ⟨R', e1, D1, t1, k1, o1⟩ := HRb.out.setG ok hv v.W v.H (R.g v.n) (R.cap v.n) _ (fillJ_wf (HRb.out.wf v hv) v.H) HC.out (HK.out.mono (fun i e => .inr e)) (.inl rfl) (.int .i64 0)
        rw [updG_eq ok hv] at D1 o1
        exact ⟨R', e1, D1, t1, (Keep.below _ K2.out).trans k1 (fun _ _ h => h), fun i hi => (o1 i hi).imp id (fun h => by have := K2.out.size; omega)⟩
      go_wp2_with fail
      go_ret
      exact HP.out
end
end Go.Proofs.YtjlfibhbfdckpaaGreatDoor
