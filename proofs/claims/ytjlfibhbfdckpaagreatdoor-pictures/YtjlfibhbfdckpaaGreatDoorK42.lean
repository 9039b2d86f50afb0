/- Texts of the proof, one behind the other: RdU, RdN, PcB. -/
import Derived.Test.YtjlfibhbfdckpaaGreatDoorK30
import Derived.Test.YtjlfibhbfdckpaaGreatDoorK34
import Derived.Test.YtjlfibhbfdckpaaGreatDoorK35
import Derived.Test.YtjlfibhbfdckpaaGreatDoorK37
import Derived.Test.YtjlfibhbfdckpaaGreatDoorK40
import Derived.Test.YtjlfibhbfdckpaaGreatDoorK41
/- The document's desk: Give. -/
namespace Go.Proofs.YtjlfibhbfdckpaaGreatDoor
open Go.RowKit
attribute [local go_sem ↓] Go.wp_at_zero Go.wp_at_succ
theorem nd_idx' {L : List Wn} (nd : (L.map Wn.n).Nodup) {i j : Nat} {a b : Wn} (hi : L[i]? = some a) (hj : L[j]? = some b) (h : a.n = b.n) : i = j := by
  have h1 := (List.getElem?_eq_some_iff.1 hi).1
  have h2 := (List.getElem?_eq_some_iff.1 hj).1
  have := List.getElem_inj (i := i) (j := j) (h₀ := by simpa using h1) (h₁ := by simpa using h2) nd
  exact this.1 (by rw [List.getElem_map, List.getElem_map, (List.getElem?_eq_some_iff.1 hi).2, (List.getElem?_eq_some_iff.1 hj).2, h])
theorem filtN_set {p : Int} : ∀ {L : List Wn} {j : Nat} {v : Wn}, L[j]? = some v → filtN (L.set j { v with par := p }) v.n = filtN L v.n := by
  intro L
  induction L with
  | nil => intro j v h; simp at h
  | cons a t ih =>
    intro j v h
    cases j with
    | zero =>
      obtain rfl : a = v := by simpa using h
      simp [filtN]
    | succ j =>
      have := ih (j := j) (v := v) (by simpa using h)
      unfold filtN at this ⊢
      rw [List.set_cons_succ, List.filter_cons, List.filter_cons, this]
section
variable {R : Rm} {L : List Wn} {last : Int}
theorem rdRaiseUp (ok : DOk L last) (w : World) (h : RkAt w R L last) (v : Wn) (j : Nat) (hj : L[j]? = some v) (_hne : ∀ i u, i < j → L[i]? = some u → u.n ≠ v.n) (hj0 : j ≠ 0) :
    Calls Tryz.prog 100 #[.pointer (some ⟨R.d, 0, none⟩), .int .i64 v.n, .bool true] w (RkPost R L (topL L v v.par) last w (.int .i64 0)) := by
  obtain ⟨rk, K, T⟩ := ok.tree
  exact rdRaiseUpW ok.one ok.len w h v j hj (fun i u hi hu e => hi (nd_idx' T.nd hu hj e)) hj0
theorem rdRaiseLow (ok : DOk L last) (w : World) (h : RkAt w R L last) (v : Wn) (j : Nat) (hj : L[j]? = some v) (_hne : ∀ i u, i < j → L[i]? = some u → u.n ≠ v.n) (hj0 : j ≠ 0) :
    Calls Tryz.prog 100 #[.pointer (some ⟨R.d, 0, none⟩), .int .i64 v.n, .bool false] w (RkPost R L (botL L v) last w (.int .i64 0)) := by
  obtain ⟨rk, K, T⟩ := ok.tree
  rw [botL_botM]
  exact rdRaiseLowW ok.one ok.len w h v j hj (fun i u hi hu e => hi (nd_idx' T.nd hu hj e)) hj0
set_option maxRecDepth 10000 in
set_option maxHeartbeats 1000000 in
theorem rdGiveLoop (ok : DOk L last) (w : World) (h : RkAt w R L last) (v q : Wn) (j k : Nat) (hj : L[j]? = some v) (hne : ∀ i u, i < j → L[i]? = some u → u.n ≠ v.n) (hj0 : j ≠ 0) (hk : L[k]? = some q) (hnk : ∀ i u, i < k → L[i]? = some u → u.n ≠ q.n) (hs : Sub L v.n q.n) :
    Calls Tryz.prog 102 #[.pointer (some ⟨R.d, 0, none⟩), .int .i64 v.n, .int .i64 q.n] w fun e w' => e = .returned (.int .i64 5) ∧ Below w.heap.size w w' := by
  obtain ⟨rk, K, T⟩ := ok.tree
  have H1 : Hid (Calls Tryz.prog 79 #[.pointer (some ⟨R.d, 0, none⟩), .int .i64 v.n] w fun e w' => e = .returned (.int .i64 j) ∧ w' = w) := rdAtIn ok w h v j hj hne
  have H2 : Hid (Calls Tryz.prog 79 #[.pointer (some ⟨R.d, 0, none⟩), .int .i64 q.n] w fun e w' => e = .returned (.int .i64 k) ∧ w' = w) := rdAtIn ok w h q k hk hnk
  have HR : Hid (RkAt w R L last) := h
  have hq : q ∈ L := List.mem_of_getElem? hk
  have hv0 := T.pos (List.mem_of_getElem? hj)
  have hj1 : ¬ (j : Int) < 0 := by omega
  have hj2 : ¬ (j : Int) = 0 := by omega
  have hk1 : ¬ (k : Int) < 0 := by omega
  have Hs : Hid (Sub L v.n q.n) := hs
  clear h hj hne hk hnk T hs
  go_enter Tryz.func102, Tryz.ntmps102
  go_wp2_with fail
  go_at_call 79
  refine H1.out.mono ?_
  rintro e w' ⟨rfl, hw'⟩
  replace hw' := hw'.symm
  subst hw'
  go_wp2_with (first | (go_at_call 79; refine (H2.out).mono ?_; rintro e w' ⟨rfl, hw'⟩; replace hw' := hw'.symm; subst hw'))
  go_at_call 144
  refine (rdWithin ok _ HR.out q hq v.n hv0).mono ?_
  rintro e w2 ⟨b, rfl, hb, b2⟩
  obtain rfl := hb.2 Hs.out
  clear hb
  go_wp2_with fail
  go_ret
  exact ⟨rfl, b2⟩
set_option maxRecDepth 10000 in
set_option maxHeartbeats 1000000 in
theorem rdGive (ok : DOk L last) (w : World) (h : RkAt w R L last) (v q : Wn) (j k : Nat) (hj : L[j]? = some v) (hne : ∀ i u, i < j → L[i]? = some u → u.n ≠ v.n) (hj0 : j ≠ 0) (hk : L[k]? = some q) (hnk : ∀ i u, i < k → L[i]? = some u → u.n ≠ q.n) (hs : ¬ Sub L v.n q.n) :
    Calls Tryz.prog 102 #[.pointer (some ⟨R.d, 0, none⟩), .int .i64 v.n, .int .i64 q.n] w (RkPost R L (topL L v q.n) last w (.int .i64 0)) := by
  obtain ⟨rk, K, T⟩ := ok.tree
  have H1 : Hid (Calls Tryz.prog 79 #[.pointer (some ⟨R.d, 0, none⟩), .int .i64 v.n] w fun e w' => e = .returned (.int .i64 j) ∧ w' = w) := rdAtIn ok w h v j hj hne
  have H2 : Hid (Calls Tryz.prog 79 #[.pointer (some ⟨R.d, 0, none⟩), .int .i64 q.n] w fun e w' => e = .returned (.int .i64 k) ∧ w' = w) := rdAtIn ok w h q k hk hnk
  have HR : Hid (RkAt w R L last) := h
  have hq : q ∈ L := List.mem_of_getElem? hk
  have hvL : v ∈ L := List.mem_of_getElem? hj
  have hv0 := T.pos hvL
  have hj1 : ¬ (j : Int) < 0 := by omega
  have hj2 : ¬ (j : Int) = 0 := by omega
  have hk1 : ¬ (k : Int) < 0 := by omega
  have Hs : Hid (¬ Sub L v.n q.n) := hs
  have Hj : Hid (L[j]? = some v) := hj
  have Hnd : Hid ((L.map Wn.n).Nodup) := T.nd
  have hjl : j < L.length := (List.getElem?_eq_some_iff.1 hj).1
  have hjl' : (j : Int) < (L.length : Int) := by omega
  clear h hj hne hk hnk T hs
  go_enter Tryz.func102, Tryz.ntmps102
  go_wp2_with fail
  go_at_call 79
  refine H1.out.mono ?_
  rintro e w' ⟨rfl, hw'⟩
  replace hw' := hw'.symm
  subst hw'
  go_wp2_with (first | (go_at_call 79; refine (H2.out).mono ?_; rintro e w' ⟨rfl, hw'⟩; replace hw' := hw'.symm; subst hw'))
  go_at_call 144
  refine (rdWithin ok _ HR.out q hq v.n hv0).mono ?_
  rintro e w2 ⟨b, rfl, hb, b2⟩
  obtain rfl : b = false := by cases b with | false => rfl | true => exact absurd (hb.1 rfl) Hs.out
  have HR2 : Hid (RkAt w2 R L last) := HR.out.below b2
  have HB2 : Hid (Below w.heap.size w w2) := b2
  obtain ⟨g, cap, hl, hw, hfz, _⟩ := HR2.out.sl ok.one
  have d0 := HR2.out.d0
  rw [hl] at d0
  obtain ⟨c0, c1, c2, c3, c4, c5⟩ := hw j v Hj.out
  have hr := HR2.out.row
  rw [hl] at hr
  have HP1 : Hid (RkPost R L (updL L v.n (fun u => { u with par := q.n })) last w2 (.int .i64 0) (.returned (.int .i64 0)) (w2.setCell ⟨g, j * 6 + 1, none⟩ (.int .i64 q.n))) :=
    HR2.out.setRow ok Hj.out hl (fun u => { u with par := q.n }) (fun _ => rfl) (fun _ => ⟨rfl, rfl, rfl⟩) (by rw [← rFlat_set R.c L j 1 v _ (.int .i64 q.n) Hj.out (by omega) rfl]; exact row_set hr _ _) ((Keep.refl _ _).setCell _ _ (fun _ => rfl)) _
  have Hul : Hid (updL L v.n (fun u => { u with par := q.n }) = L.set j { v with par := q.n }) := updL_set Hnd.out Hj.out _
  clear hb b2 hw hl hr HR2
  go_wp2_with fail
  generalize w2.setCell ⟨g, j * 6 + 1, none⟩ (.int .i64 q.n) = w3 at *
  obtain ⟨R', _, D1, t1, k1, o1⟩ := HP1.out
  rw [Hul.out] at D1 o1
  have hl1 : 1 ≤ (L.set j { v with par := q.n }).length := by rw [List.length_set]; exact ok.one
  have hl16 : (L.set j { v with par := q.n }).length ≤ 16 := by rw [List.length_set]; exact ok.len
  have hgj : (L.set j { v with par := q.n })[j]? = some { v with par := q.n } := by rw [List.getElem?_set_self hjl]
  have hg2 : ∀ i u, i ≠ j → (L.set j { v with par := q.n })[i]? = some u → u.n ≠ v.n := fun i u hi hu e => by
    rw [List.getElem?_set_ne (fun q => hi q.symm)] at hu
    exact hi (nd_idx' Hnd.out hu Hj.out e)
  have hcall := rdRaiseUpW (R := R') hl1 hl16 w3 D1 { v with par := q.n } j hgj hg2 hj0
  rw [t1] at hcall
  go_at_call 100
  refine hcall.mono ?_
  rintro e w4 ⟨R2, rfl, D2, t2, k2, o2⟩
  have hfil : filtN (L.set j { v with par := q.n }) v.n = filtN L v.n := filtN_set Hj.out
  have HP : Hid (RkPost R L (topL L v q.n) last w (.int .i64 0) (.returned (.int .i64 0)) w4) := by
    refine ⟨R2, rfl, ?_, t2.trans t1, ?_, ?_⟩
    · have := D2
      rw [hfil] at this
      exact this
    · refine ((Keep.below _ HB2.out).trans k1 (fun _ _ h => h)).trans k2 (fun i hi h => ?_)
      rcases o1 i h with e | e
      · exact e
      · have := HB2.out.size; omega
    · intro i hi
      have hi' : R2.own (filtN (L.set j { v with par := q.n }) v.n ++ [{ v with par := q.n }]) i := by rw [hfil]; exact hi
      have z1 := HB2.out.size
      have z2 := k1.size
      rcases o2 i hi' with e | e
      · rcases o1 i e with e | e
        · exact .inl e
        · exact .inr (by omega)
      · exact .inr (by omega)
  clear D2 k2 o2 hcall
  go_wp2_with fail
  go_ret
  exact HP.out
end
end Go.Proofs.YtjlfibhbfdckpaaGreatDoor

/- The document's desk: all its calls. -/

/- The statement of pictures: each call, on both desks alike. -/
namespace Go.Proofs.YtjlfibhbfdckpaaGreatDoor
open Go.RowKit
section
variable {L : List Wn} {last : Int}
theorem Calls.below {f : Nat} {a : Array Value} {w : World} {r : Value} (h : Calls Tryz.prog f a w fun e w' => e = .returned r ∧ w' = w) : Calls Tryz.prog f a w fun e w' => e = .returned r ∧ Below w.heap.size w w' :=
  h.mono (by rintro e w' ⟨rfl, rfl⟩; exact ⟨rfl, Below.refl _ _⟩)
theorem Tot.no {fx fy : Nat} {a : Option Addr → Array Value} {r : Value} (ok : DOk L last)
    (hx : ∀ (w : World) (M : Mm) (N : Nat) (s : Rs) (t : Pt), DkAt w M L last N s t → Calls Tryz.prog fx (a (some ⟨M.t 0, 0, none⟩)) w fun e w' => e = .returned r ∧ Below w.heap.size w w')
    (hy : ∀ (w : World) (R : Rm), RkAt w R L last → Calls Tryz.prog fy (a (some ⟨R.d, 0, none⟩)) w fun e w' => e = .returned r ∧ Below w.heap.size w w') : Tot fx fy a L last L last r :=
  ⟨ok, ⟨Int.le_refl _, by omega⟩, fun w M N s t hs h => (hx w M N s t h).mono (by rintro e w' ⟨rfl, b⟩; exact ⟨s, t, hs, (DPost.stay h b).toG⟩), fun w R h => (hy w R h).mono (by rintro e w' ⟨rfl, b⟩; exact RkPost.stay h b)⟩
theorem Tot.yes {fx fy : Nat} {a : Option Addr → Array Value} {r : Value} {L' : List Wn} {last' : Int} (ok : DOk L' last') (le : last ≤ last' ∧ last' ≤ last + 1)
    (hx : ∀ (w : World) (M : Mm) (N : Nat) (s : Rs) (t : Pt), DkAt w M L last N s t → Calls Tryz.prog fx (a (some ⟨M.t 0, 0, none⟩)) w (DPost M L L' last' N s t w r))
    (hy : ∀ (w : World) (R : Rm), RkAt w R L last → Calls Tryz.prog fy (a (some ⟨R.d, 0, none⟩)) w (RkPost R L L' last' w r)) : Tot fx fy a L last L' last' r :=
  ⟨ok, le, fun w M N s t hs h => (hx w M N s t h).mono (fun _ _ p => ⟨s, t, hs, p.toG⟩), hy⟩
/-- A window that is there and is not the root. -/
theorem child_ok (ok : DOk L last) {n : Int} (he : childE L n = 0) : ∃ v ∈ L, v.n = n ∧ v.n ≠ 0 ∧ v.par ≠ -1 ∧ (∃ o ∈ L, v.par = o.n ∧ v.n ≠ o.n) ∧ ∃ j : Nat, j ≠ 0 ∧ L[j]? = some v ∧ ∀ (i : Nat) (u : Wn), i < j → L[i]? = some u → u.n ≠ v.n := by
  obtain ⟨rk, K, T⟩ := ok.tree
  unfold childE at he
  rcases at_of ok n with ⟨v, hv, rfl, j, hjl, hj, hne, _, h0⟩ | hn
  · have hh : hasN L v.n = true := hasN_iff.2 ⟨v, hv, rfl⟩
    rw [if_neg (by simp [hh])] at he
    have e0 : v.n ≠ 0 := fun e => by rw [if_pos e] at he; omega
    have hp : v.par ≠ -1 := fun e => e0 ((T.zero hv).2 e)
    have hp0 : 0 ≤ v.par := by rcases T.parNot hv with e | e <;> omega
    obtain ⟨⟨o, ho, hon⟩, hr⟩ := T.up v hv hp0
    refine ⟨v, hv, rfl, e0, hp, ⟨o, ho, hon.symm, fun e => ?_⟩, j, fun e => e0 (h0.1 e), hj, hne⟩
    rw [hon] at e
    rw [e] at hr
    omega
  · rw [if_pos hn] at he; omega
theorem has_ok (ok : DOk L last) {n : Int} (he : hasN L n = true) : ∃ v ∈ L, v.n = n ∧ ∃ j : Nat, L[j]? = some v ∧ ∀ (i : Nat) (u : Wn), i < j → L[i]? = some u → u.n ≠ v.n := by
  rcases at_of ok n with ⟨v, hv, rfl, j, hjl, hj, hne, _, h0⟩ | hn
  · exact ⟨v, hv, rfl, j, hj, hne⟩
  · rw [hn] at he; simp at he
theorem ok_setG (ok : DOk L last) (n : Int) (W H : Wn → Nat) (G : Wn → Nat → Nat → Cel) : DOk (updL L n (fun u => { u with W := W u, H := H u, G := G u })) last :=
  ok_updL ok (fun _ _ e => e) (fun _ _ _ => rfl) (fun u hu _ => ok.pl u hu)
theorem totShow (ok : DOk L last) (n : Int) (b : Bool) : ∃ L' r, Tot 53 101 (fun p => #[.pointer p, .int .i64 n, .bool b]) L last L' last (.int .i64 r) := by
  by_cases he : childE L n = 0
  · obtain ⟨v, hv, rfl, v0, hp, _, j, j0, hj, hne⟩ := child_ok ok he
    exact ⟨updL L v.n (fun u => { u with sh := b }), 0, .yes (ok_updL ok (fun _ _ e => e) (fun _ _ _ => rfl) (fun u hu _ => ok.pl u hu)) ⟨Int.le_refl _, by omega⟩ (fun w M N s t h => kShow ok w h v hv hp b) (fun w R h => rdShow ok w h v j hj hne j0 b)⟩
  · exact ⟨L, _, .no ok (fun w M N s t h => Calls.below (kShowNo ok w h n b he)) (fun w R h => Calls.below (rdShowNo ok w h n b he))⟩
theorem totMove (ok : DOk L last) (n x y : Int) : ∃ L' r, Tot 50 98 (fun p => #[.pointer p, .int .i64 n, .int .i64 x, .int .i64 y]) L last L' last (.int .i64 r) := by
  by_cases he : childE L n = 0
  · obtain ⟨v, hv, rfl, v0, hp, _, j, j0, hj, hne⟩ := child_ok ok he
    cases hpl : placeB x y with
    | true => exact ⟨updL L v.n (fun u => { u with x := x, y := y }), 0, .yes (ok_updL ok (fun _ _ e => e) (fun _ _ _ => rfl) (fun u hu _ => placeB_iff.1 hpl)) ⟨Int.le_refl _, by omega⟩ (fun w M N s t h => kMove ok w h v hv hp x y hpl) (fun w R h => rdMove ok w h v j hj hne j0 x y hpl)⟩
    | false => exact ⟨L, 4, .no ok (fun w M N s t h => Calls.below (kMoveOff ok w h v hv hp x y hpl)) (fun w R h => Calls.below (rdMoveOff ok w h v j hj hne j0 x y hpl))⟩
  · exact ⟨L, _, .no ok (fun w M N s t h => Calls.below (kMoveNo ok w h n x y he)) (fun w R h => Calls.below (rdMoveNo ok w h n x y he))⟩
theorem totShape (ok : DOk L last) (n x y : Int) : ∃ L' r, Tot 51 99 (fun p => #[.pointer p, .int .i64 n, .int .i64 x, .int .i64 y]) L last L' last (.int .i64 r) := by
  by_cases he : childE L n = 0
  · obtain ⟨v, hv, rfl, v0, hp, _, j, j0, hj, hne⟩ := child_ok ok he
    cases hpl : sizeB x y with
    | true =>
      obtain ⟨a1, a2, a3, a4⟩ := sizeB_iff.1 hpl
      obtain ⟨x, rfl⟩ := Int.eq_ofNat_of_zero_le (show 0 ≤ x by omega)
      obtain ⟨y, rfl⟩ := Int.eq_ofNat_of_zero_le (show 0 ≤ y by omega)
      exact ⟨updL L v.n (fun u => { u with W := x, H := y, G := sizedG v.W v.H x v.G }), 0, .yes (ok_updL ok (fun _ _ e => e) (fun _ _ _ => rfl) (fun u hu _ => ok.pl u hu)) ⟨Int.le_refl _, by omega⟩ (fun w M N s t h => kShape ok w h v hv hp x y hpl) (fun w R h => rdShape ok w h v j hj hne j0 x y hpl)⟩
    | false => exact ⟨L, 3, .no ok (fun w M N s t h => Calls.below (kShapeOff ok w h v hv hp x y hpl)) (fun w R h => Calls.below (rdShapeOff ok w h v j hj hne j0 x y hpl))⟩
  · exact ⟨L, _, .no ok (fun w M N s t h => Calls.below (kShapeNo ok w h n x y he)) (fun w R h => Calls.below (rdShapeNo ok w h n x y he))⟩
theorem totRaise (ok : DOk L last) (n : Int) (b : Bool) : ∃ L' r, Tot 52 100 (fun p => #[.pointer p, .int .i64 n, .bool b]) L last L' last (.int .i64 r) := by
  by_cases he : childE L n = 0
  · obtain ⟨v, hv, rfl, v0, hp, ⟨o, ho, hpo, hvo⟩, j, j0, hj, hne⟩ := child_ok ok he
    cases b with
    | true =>
      refine ⟨topL L v o.n, 0, .yes (ok_top ok hv v0 ho (par_ns ok hv ho hpo)) ⟨Int.le_refl _, by omega⟩ (fun w M N s t h => kRaise ok w h v hv hp true _ (dRaiseUp ok w h v o hv ho hpo hvo)) (fun w R h => ?_)⟩
      rw [← hpo]
      exact rdRaiseUp ok w h v j hj hne j0
    | false => exact ⟨botL L v, 0, .yes (ok_bot ok hv v0) ⟨Int.le_refl _, by omega⟩ (fun w M N s t h => kRaise ok w h v hv hp false _ (dRaiseLow ok w h v o hv ho hpo hvo)) (fun w R h => rdRaiseLow ok w h v j hj hne j0)⟩
  · exact ⟨L, _, .no ok (fun w M N s t h => Calls.below (kRaiseNo ok w h n b he)) (fun w R h => Calls.below (rdRaiseNo ok w h n b he))⟩
theorem totDelete (ok : DOk L last) (n : Int) : ∃ L' r, Tot 49 97 (fun p => #[.pointer p, .int .i64 n]) L last L' last (.int .i64 r) := by
  by_cases he : childE L n = 0
  · obtain ⟨v, hv, rfl, v0, hp, ⟨o, ho, hpo, hvo⟩, j, j0, hj, hne⟩ := child_ok ok he
    exact ⟨delL L v.n, 0, .yes (ok_del ok hv v0) ⟨Int.le_refl _, by omega⟩ (fun w M N s t h => kDelete ok w h v o hv ho hpo hvo hp) (fun w R h => rdDelete ok w h v j hj hne j0)⟩
  · exact ⟨L, _, .no ok (fun w M N s t h => Calls.below (kDeleteNo ok w h n he)) (fun w R h => Calls.below (rdDeleteNo ok w h n he))⟩
theorem totGive (ok : DOk L last) (n m : Int) : ∃ L' r, Tot 54 102 (fun p => #[.pointer p, .int .i64 n, .int .i64 m]) L last L' last (.int .i64 r) := by
  obtain ⟨rk, K, T⟩ := ok.tree
  cases hm : hasN L m with
  | false => exact ⟨L, 1, .no ok (fun w M N s t h => Calls.below (kGiveNone ok w h n m hm)) (fun w R h => Calls.below (rdGiveNone ok w h n m hm))⟩
  | true =>
    obtain ⟨q, hq, rfl, k, hk, hnk⟩ := has_ok ok hm
    by_cases he : childE L n = 0
    · obtain ⟨v, hv, rfl, v0, hp, ⟨o, ho, hpo, hvo⟩, j, j0, hj, hne⟩ := child_ok ok he
      by_cases hs : Sub L v.n q.n
      · exact ⟨L, 5, .no ok (fun w M N s t h => Calls.below (kGiveLoop T ok w h v q hv hq hp hs)) (fun w R h => rdGiveLoop ok w h v q j k hj hne j0 hk hnk hs)⟩
      · exact ⟨topL L v q.n, 0, .yes (ok_top ok hv v0 hq hs) ⟨Int.le_refl _, by omega⟩ (fun w M N s t h => kGive T ok w h v o q hv ho hq hpo hvo hs) (fun w R h => rdGive ok w h v q j k hj hne j0 hk hnk hs)⟩
    · exact ⟨L, _, .no ok (fun w M N s t h => Calls.below (kGiveNo ok w h n q hq he)) (fun w R h => Calls.below (rdGiveNo ok w h n q k hk hnk he))⟩
theorem totCreateYes (ok : DOk L last) (l0 : 0 ≤ last) (hl : last < 9223372036854775807) (v : Wn) (hv : v ∈ L) (x y : Int) (W H : Nat) (hpl : placeB x y = true) (hs : sizeB W H = true) (hlen : L.length < 16) :
    Tot 48 96 (fun p => #[.pointer p, .int .i64 v.n, .int .i64 x, .int .i64 y, .int .i64 W, .int .i64 H]) L last (L ++ [⟨last + 1, v.n, x, y, true, W, H, fun _ _ => blk Pn.plain⟩]) (last + 1) (.tuple #[.int .i64 (last + 1), .int .i64 0]) := by
  obtain ⟨rk, K, T⟩ := ok.tree
  obtain ⟨j, hj, hne, _⟩ := idx_of T.nd hv
  have hz := sizeB_iff.1 hs
  exact .yes (ok_create ok hv hlen x y W H _ (placeB_iff.1 hpl) true) ⟨by omega, Int.le_refl _⟩ (fun w M N s t h => kCreate ok w h v hv x y W H (by omega) (by omega) (by omega) (by omega) hpl hlen hl) (fun w R h => rdCreate ok w h v j hj hne x y W H hpl hs hlen hl l0)
theorem totCreate (ok : DOk L last) (l0 : 0 ≤ last) (hl : last < 9223372036854775807) (n x y W H : Int) : ∃ L' last' a b, Tot 48 96 (fun p => #[.pointer p, .int .i64 n, .int .i64 x, .int .i64 y, .int .i64 W, .int .i64 H]) L last L' last' (.tuple #[.int .i64 a, .int .i64 b]) := by
  by_cases he : createE L n x y W H = 0
  · unfold createE at he
    cases hn : hasN L n with
    | false => rw [if_pos hn] at he; omega
    | true =>
      rw [if_neg (by simp [hn])] at he
      cases hp : placeB x y with
      | false => rw [if_pos hp] at he; omega
      | true =>
        rw [if_neg (by simp [hp])] at he
        cases hs : sizeB W H with
        | false => rw [if_pos hs] at he; omega
        | true =>
          rw [if_neg (by simp [hs])] at he
          by_cases h16 : 16 ≤ L.length
          · rw [if_pos h16] at he; omega
          · obtain ⟨v, hv, rfl, _⟩ := has_ok ok hn
            obtain ⟨a1, a2, a3, a4⟩ := sizeB_iff.1 hs
            obtain ⟨W, rfl⟩ := Int.eq_ofNat_of_zero_le (show 0 ≤ W by omega)
            obtain ⟨H, rfl⟩ := Int.eq_ofNat_of_zero_le (show 0 ≤ H by omega)
            exact ⟨_, _, _, _, totCreateYes ok l0 hl v hv x y W H hp hs (by omega)⟩
  · exact ⟨L, last, _, _, .no ok (fun w M N s t h => Calls.below (kCreateNo ok w h n x y W H he)) (fun w R h => Calls.below (rdCreateNo ok w h n x y W H he))⟩
theorem totWriteYes (ok : DOk L last) (v : Wn) (hv : v ∈ L) (x y : Int) (hpl : placeB x y = true) (b : ByteArray) (hb : b.size ≤ 200) (p : Pn) (hpn : penB p = true) :
    Tot 31 32 (fun q => #[.pointer q, .int .i64 v.n, .int .i64 x, .int .i64 y, .string b, p.agg]) L last (updL L v.n (fun u => { u with G := writeAll v.W v.H y p x (runesG b b.size 0) v.G })) last (.int .i64 0) := by
  obtain ⟨rk, K, T⟩ := ok.tree
  obtain ⟨j, hj, hne, _⟩ := idx_of T.nd hv
  exact .yes (ok_updL ok (fun _ _ e => e) (fun _ _ _ => rfl) (fun u hu _ => ok.pl u hu)) ⟨Int.le_refl _, by omega⟩ (fun w M N s t h => kWrite ok w h v hv x y hpl b hb p hpn) (fun w R h => rdWrite ok w h v j hj hne x y hpl b hb p hpn)
theorem totWrite (ok : DOk L last) (n x y : Int) (b : ByteArray) (p : Pn) : ∃ L' r, Tot 31 32 (fun q => #[.pointer q, .int .i64 n, .int .i64 x, .int .i64 y, .string b, p.agg]) L last L' last (.int .i64 r) := by
  by_cases he : writeE L n x y b p = 0
  · unfold writeE at he
    cases hn : hasN L n with
    | false => rw [if_pos hn] at he; omega
    | true =>
      rw [if_neg (by simp [hn])] at he
      cases hp : placeB x y with
      | false => rw [if_pos hp] at he; omega
      | true =>
        rw [if_neg (by simp [hp])] at he
        by_cases hb : 200 < b.size
        · rw [if_pos hb] at he; omega
        · rw [if_neg hb] at he
          cases hpn : penB p with
          | false => rw [if_pos hpn] at he; omega
          | true =>
            obtain ⟨v, hv, rfl, _⟩ := has_ok ok hn
            exact ⟨_, _, totWriteYes ok v hv x y hp b (by omega) p hpn⟩
  · exact ⟨L, _, .no ok (fun w M N s t h => kWriteNo ok w h n x y b p he) (fun w R h => rdWriteNo ok w h n x y b p he)⟩
theorem totFill (ok : DOk L last) (n x y ww hh : Int) (p : Pn) : ∃ L' r, Tot 33 34 (fun q => #[.pointer q, .int .i64 n, .int .i64 x, .int .i64 y, .int .i64 ww, .int .i64 hh, p.agg]) L last L' last (.int .i64 r) := by
  by_cases he : fillE L n x y ww hh p = 0
  · unfold fillE at he
    cases hn : hasN L n with
    | false => rw [if_pos hn] at he; omega
    | true =>
      rw [if_neg (by simp [hn])] at he
      cases hp : placeB x y with
      | false => rw [if_pos hp] at he; omega
      | true =>
        rw [if_neg (by simp [hp])] at he
        cases hr : rectB ww hh with
        | false => rw [if_pos hr] at he; omega
        | true =>
          rw [if_neg (by simp [hr])] at he
          cases hpn : penB p with
          | false => rw [if_pos hpn] at he; omega
          | true =>
            obtain ⟨v, hv, rfl, j, hj, hne⟩ := has_ok ok hn
            exact ⟨updL L v.n (fun u => { u with G := fillJ v.W x y ww hh p v.G v.H }), _, .yes (ok_updL ok (fun _ _ e => e) (fun _ _ _ => rfl) (fun u hu _ => ok.pl u hu)) ⟨Int.le_refl _, by omega⟩ (fun w M N s t h => kFill ok w h v hv x y ww hh p hp hr hpn) (fun w R h => rdFill ok w h v j hj hne x y ww hh p hp hr hpn)⟩
  · exact ⟨L, _, .no ok (fun w M N s t h => kFillNo ok w h n x y ww hh p he) (fun w R h => rdFillNo ok w h n x y ww hh p he)⟩
theorem totScroll (ok : DOk L last) (n k : Int) : ∃ L' r, Tot 35 36 (fun q => #[.pointer q, .int .i64 n, .int .i64 k]) L last L' last (.int .i64 r) := by
  cases hn : hasN L n with
  | false => exact ⟨L, 1, .no ok (fun w M N s t h => Calls.below (kScrollNo ok w h n k hn)) (fun w R h => Calls.below (rdScrollNo ok w h n k hn))⟩
  | true =>
    obtain ⟨v, hv, rfl, j, hj, hne⟩ := has_ok ok hn
    exact ⟨updL L v.n (fun u => { u with G := scrollG 0 ((v.H : Int) - 1) k Pn.plain v.G }), _, .yes (ok_updL ok (fun _ _ e => e) (fun _ _ _ => rfl) (fun u hu _ => ok.pl u hu)) ⟨Int.le_refl _, by omega⟩ (fun w M N s t h => kScroll ok w h v hv k) (fun w R h => rdScroll ok w h v j hj hne k)⟩
theorem totResize (ok : DOk L last) (x y : Int) : ∃ L' r, Tot 18 37 (fun q => #[.pointer q, .int .i64 x, .int .i64 y]) L last L' last (.int .i64 r) := by
  obtain ⟨rk, K, T⟩ := ok.tree
  cases hz : sizeB x y with
  | false => exact ⟨L, 3, .no ok (fun w M N s t h => Calls.below (kResizeNo w h x y hz)) (fun w R h => Calls.below (rdResizeNo w R.d x y hz))⟩
  | true =>
    obtain ⟨a1, a2, a3, a4⟩ := sizeB_iff.1 hz
    obtain ⟨x, rfl⟩ := Int.eq_ofNat_of_zero_le (show 0 ≤ x by omega)
    obtain ⟨y, rfl⟩ := Int.eq_ofNat_of_zero_le (show 0 ≤ y by omega)
    obtain ⟨r, t', e, h0, h1, h2⟩ := T.head
    have hr : r ∈ L := by rw [e]; exact List.mem_cons_self
    refine ⟨_, _, ⟨ok_updL (n := r.n) (f := fun u => { u with W := x, H := y, G := sizedG r.W r.H x r.G }) ok (fun _ _ e => e) (fun _ _ _ => rfl) (fun u hu _ => ok.pl u hu), ⟨Int.le_refl _, by omega⟩, fun w M N s t hs h => (kResize ok w h hs r hr h0 x y hz).mono (fun e' w' p => ⟨_, _, resizeR_ok hs (by omega) (by omega) (by omega) (by omega), p⟩), fun w R h => rdResize ok w h r (by rw [e]; rfl) x y hz⟩⟩
end
end Go.Proofs.YtjlfibhbfdckpaaGreatDoor
