/- Texts of the proof, one behind the other: PcB. -/
import Derived.Test.YtjlfibhbfdckpaaGreatDoorK37
import Derived.Test.YtjlfibhbfdckpaaGreatDoorK50
/- The statement of pictures: each call, on both desks alike. -/
namespace Go.Proofs.YtjlfibhbfdckpaaGreatDoor
open Go.RowKit
section
variable {L : List Wn} {last : Int}
theorem Calls.below {f : Nat} {a : Array Value} {w : World} {r : Value} (h : Calls Tryz.prog f a w fun e w' => e = .returned r ∧ w' = w) : Calls Tryz.prog f a w fun e w' => e = .returned r ∧ Below w.heap.size w w' :=
  h.mono (by rintro e w' ⟨rfl, rfl⟩; exact ⟨rfl, Below.refl _ _⟩)
theorem Tot.no {fx fy : Nat} {a : Option Addr → Array Value} {r : Value} (ok : DOk L last)
    (hx : ∀ (w : World) (M : Mm) (N : Nat) (s : Rs) (t : Pt), DkAt w M L last N s t → Calls Tryz.prog fx (a (some ⟨M.t 0, 0, none⟩)) w fun e w' => e = .returned r ∧ Below w.heap.size w w')
    (hy : ∀ (w : World) (R : Rm), RkAt w R L last → Calls Tryz.prog fy (a (some ⟨R.d, 0, none⟩)) w fun e w' => e = .returned r ∧ Below w.heap.size w w') : Tot fx fy a L last L last r :=
  ⟨ok, ⟨Int.le_refl _, by omega⟩, fun w M N s t hs h => (hx w M N s t h).mono (by rintro e w' ⟨rfl, b⟩; exact ⟨s, t, hs, (DPost.stay h b).toG⟩), fun w R h => (hy w R h).mono (by rintro e w' ⟨rfl, b⟩; exact RkPost.stay h b)⟩
theorem Tot.yes {fx fy : Nat} {a : Option Addr → Array Value} {r : Value} {L' : List Wn} {last' : Int} (ok : DOk L' last') (le : last ≤ last' ∧ last' ≤ last + 1)
    (hx : ∀ (w : World) (M : Mm) (N : Nat) (s : Rs) (t : Pt), DkAt w M L last N s t → Calls Tryz.prog fx (a (some ⟨M.t 0, 0, none⟩)) w (DPost M L L' last' N s t w r))
    (hy : ∀ (w : World) (R : Rm), RkAt w R L last → Calls Tryz.prog fy (a (some ⟨R.d, 0, none⟩)) w (RkPost R L L' last' w r)) : Tot fx fy a L last L' last' r :=
  ⟨ok, le, fun w M N s t hs h => (hx w M N s t h).mono (fun _ _ p => ⟨s, t, hs, p.toG⟩), hy⟩
/-- A window that is there and is not the root. -/
theorem child_ok (ok : DOk L last) {n : Int} (he : childE L n = 0) : ∃ v ∈ L, v.n = n ∧ v.n ≠ 0 ∧ v.par ≠ -1 ∧ (∃ o ∈ L, v.par = o.n ∧ v.n ≠ o.n) ∧ ∃ j : Nat, j ≠ 0 ∧ L[j]? = some v ∧ ∀ (i : Nat) (u : Wn), i < j → L[i]? = some u → u.n ≠ v.n := by
  obtain ⟨rk, K, T⟩ := ok.tree
  unfold childE at he
  rcases at_of ok n with ⟨v, hv, rfl, j, hjl, hj, hne, _, h0⟩ | hn
  · have hh : hasN L v.n = true := hasN_iff.2 ⟨v, hv, rfl⟩
    rw [if_neg (by simp [hh])] at he
    have e0 : v.n ≠ 0 := fun e => by rw [if_pos e] at he; omega
    have hp : v.par ≠ -1 := fun e => e0 ((T.zero hv).2 e)
    have hp0 : 0 ≤ v.par := by rcases T.parNot hv with e | e <;> omega
    obtain ⟨⟨o, ho, hon⟩, hr⟩ := T.up v hv hp0
    refine ⟨v, hv, rfl, e0, hp, ⟨o, ho, hon.symm, fun e => ?_⟩, j, fun e => e0 (h0.1 e), hj, hne⟩
    rw [hon] at e
    rw [e] at hr
    omega
  · rw [if_pos hn] at he; omega
theorem has_ok (ok : DOk L last) {n : Int} (he : hasN L n = true) : ∃ v ∈ L, v.n = n ∧ ∃ j : Nat, L[j]? = some v ∧ ∀ (i : Nat) (u : Wn), i < j → L[i]? = some u → u.n ≠ v.n := by
  rcases at_of ok n with ⟨v, hv, rfl, j, hjl, hj, hne, _, h0⟩ | hn
  · exact ⟨v, hv, rfl, j, hj, hne⟩
  · rw [hn] at he; simp at he
theorem ok_setG (ok : DOk L last) (n : Int) (W H : Wn → Nat) (G : Wn → Nat → Nat → Cel) : DOk (updL L n (fun u => { u with W := W u, H := H u, G := G u })) last :=
  ok_updL ok (fun _ _ e => e) (fun _ _ _ => rfl) (fun u hu _ => ok.pl u hu)
theorem totShow (ok : DOk L last) (n : Int) (b : Bool) : ∃ L' r, Tot 53 101 (fun p => #[.pointer p, .int .i64 n, .bool b]) L last L' last (.int .i64 r) := by
  by_cases he : childE L n = 0
  · obtain ⟨v, hv, rfl, v0, hp, _, j, j0, hj, hne⟩ := child_ok ok he
    exact ⟨updL L v.n (fun u => { u with sh := b }), 0, .yes (ok_updL ok (fun _ _ e => e) (fun _ _ _ => rfl) (fun u hu _ => ok.pl u hu)) ⟨Int.le_refl _, by omega⟩ (fun w M N s t h => kShow ok w h v hv hp b) (fun w R h => rdShow ok w h v j hj hne j0 b)⟩
  · exact ⟨L, _, .no ok (fun w M N s t h => Calls.below (kShowNo ok w h n b he)) (fun w R h => Calls.below (rdShowNo ok w h n b he))⟩
theorem totMove (ok : DOk L last) (n x y : Int) : ∃ L' r, Tot 50 98 (fun p => #[.pointer p, .int .i64 n, .int .i64 x, .int .i64 y]) L last L' last (.int .i64 r) := by
  by_cases he : childE L n = 0
  · obtain ⟨v, hv, rfl, v0, hp, _, j, j0, hj, hne⟩ := child_ok ok he
    cases hpl : placeB x y with
    | true => exact ⟨updL L v.n (fun u => { u with x := x, y := y }), 0, .yes (ok_updL ok (fun _ _ e => e) (fun _ _ _ => rfl) (fun u hu _ => placeB_iff.1 hpl)) ⟨Int.le_refl _, by omega⟩ (fun w M N s t h => kMove ok w h v hv hp x y hpl) (fun w R h => rdMove ok w h v j hj hne j0 x y hpl)⟩
    | false => exact ⟨L, 4, .no ok (fun w M N s t h => Calls.below (kMoveOff ok w h v hv hp x y hpl)) (fun w R h => Calls.below (rdMoveOff ok w h v j hj hne j0 x y hpl))⟩
  · exact ⟨L, _, .no ok (fun w M N s t h => Calls.below (kMoveNo ok w h n x y he)) (fun w R h => Calls.below (rdMoveNo ok w h n x y he))⟩
theorem totShape (ok : DOk L last) (n x y : Int) : ∃ L' r, Tot 51 99 (fun p => #[.pointer p, .int .i64 n, .int .i64 x, .int .i64 y]) L last L' last (.int .i64 r) := by
  by_cases he : childE L n = 0
  · obtain ⟨v, hv, rfl, v0, hp, _, j, j0, hj, hne⟩ := child_ok ok he
    cases hpl : sizeB x y with
    | true =>
      obtain ⟨a1, a2, a3, a4⟩ := sizeB_iff.1 hpl
      obtain ⟨x, rfl⟩ := Int.eq_ofNat_of_zero_le (show 0 ≤ x by omega)
      obtain ⟨y, rfl⟩ := Int.eq_ofNat_of_zero_le (show 0 ≤ y by omega)
      exact ⟨updL L v.n (fun u => { u with W := x, H := y, G := sizedG v.W v.H x v.G }), 0, .yes (ok_updL ok (fun _ _ e => e) (fun _ _ _ => rfl) (fun u hu _ => ok.pl u hu)) ⟨Int.le_refl _, by omega⟩ (fun w M N s t h => kShape ok w h v hv hp x y hpl) (fun w R h => rdShape ok w h v j hj hne j0 x y hpl)⟩
    | false => exact ⟨L, 3, .no ok (fun w M N s t h => Calls.below (kShapeOff ok w h v hv hp x y hpl)) (fun w R h => Calls.below (rdShapeOff ok w h v j hj hne j0 x y hpl))⟩
  · exact ⟨L, _, .no ok (fun w M N s t h => Calls.below (kShapeNo ok w h n x y he)) (fun w R h => Calls.below (rdShapeNo ok w h n x y he))⟩
theorem totRaise (ok : DOk L last) (n : Int) (b : Bool) : ∃ L' r, Tot 52 100 (fun p => #[.pointer p, .int .i64 n, .bool b]) L last L' last (.int .i64 r) := by
  by_cases he : childE L n = 0
  · obtain ⟨v, hv, rfl, v0, hp, ⟨o, ho, hpo, hvo⟩, j, j0, hj, hne⟩ := child_ok ok he
    cases b with
    | true =>
      refine ⟨topL L v o.n, 0, .yes (ok_top ok hv v0 ho (par_ns ok hv ho hpo)) ⟨Int.le_refl _, by omega⟩ (fun w M N s t h => kRaise ok w h v hv hp true _ (dRaiseUp ok w h v o hv ho hpo hvo)) (fun w R h => ?_)⟩
      rw [← hpo]
      exact rdRaiseUp ok w h v j hj hne j0
    | false => exact ⟨botL L v, 0, .yes (ok_bot ok hv v0) ⟨Int.le_refl _, by omega⟩ (fun w M N s t h => kRaise ok w h v hv hp false _ (dRaiseLow ok w h v o hv ho hpo hvo)) (fun w R h => rdRaiseLow ok w h v j hj hne j0)⟩
  · exact ⟨L, _, .no ok (fun w M N s t h => Calls.below (kRaiseNo ok w h n b he)) (fun w R h => Calls.below (rdRaiseNo ok w h n b he))⟩
theorem totDelete (ok : DOk L last) (n : Int) : ∃ L' r, Tot 49 97 (fun p => #[.pointer p, .int .i64 n]) L last L' last (.int .i64 r) := by
  by_cases he : childE L n = 0
  · obtain ⟨v, hv, rfl, v0, hp, ⟨o, ho, hpo, hvo⟩, j, j0, hj, hne⟩ := child_ok ok he
    exact ⟨delL L v.n, 0, .yes (ok_del ok hv v0) ⟨Int.le_refl _, by omega⟩ (fun w M N s t h => kDelete ok w h v o hv ho hpo hvo hp) (fun w R h => rdDelete ok w h v j hj hne j0)⟩
  · exact ⟨L, _, .no ok (fun w M N s t h => Calls.below (kDeleteNo ok w h n he)) (fun w R h => Calls.below (rdDeleteNo ok w h n he))⟩
theorem totGive (ok : DOk L last) (n m : Int) : ∃ L' r, Tot 54 102 (fun p => #[.pointer p, .int .i64 n, .int .i64 m]) L last L' last (.int .i64 r) := by
  obtain ⟨rk, K, T⟩ := ok.tree
  cases hm : hasN L m with
  | false => exact ⟨L, 1, .no ok (fun w M N s t h => Calls.below (kGiveNone ok w h n m hm)) (fun w R h => Calls.below (rdGiveNone ok w h n m hm))⟩
  | true =>
    obtain ⟨q, hq, rfl, k, hk, hnk⟩ := has_ok ok hm
    by_cases he : childE L n = 0
    · obtain ⟨v, hv, rfl, v0, hp, ⟨o, ho, hpo, hvo⟩, j, j0, hj, hne⟩ := child_ok ok he
      by_cases hs : Sub L v.n q.n
      · exact ⟨L, 5, .no ok (fun w M N s t h => Calls.below (kGiveLoop T ok w h v q hv hq hp hs)) (fun w R h => rdGiveLoop ok w h v q j k hj hne j0 hk hnk hs)⟩
      · exact ⟨topL L v q.n, 0, .yes (ok_top ok hv v0 hq hs) ⟨Int.le_refl _, by omega⟩ (fun w M N s t h => kGive T ok w h v o q hv ho hq hpo hvo hs) (fun w R h => rdGive ok w h v q j k hj hne j0 hk hnk hs)⟩
    · exact ⟨L, _, .no ok (fun w M N s t h => Calls.below (kGiveNo ok w h n q hq he)) (fun w R h => Calls.below (rdGiveNo ok w h n q k hk hnk he))⟩
theorem totCreateYes (ok : DOk L last) (l0 : 0 ≤ last) (hl : last < 9223372036854775807) (v : Wn) (hv : v ∈ L) (x y : Int) (W H : Nat) (hpl : placeB x y = true) (hs : sizeB W H = true) (hlen : L.length < 16) :
    Tot 48 96 (fun p => #[.pointer p, .int .i64 v.n, .int .i64 x, .int .i64 y, .int .i64 W, .int .i64 H]) L last (L ++ [⟨last + 1, v.n, x, y, true, W, H, fun _ _ => blk Pn.plain⟩]) (last + 1) (.tuple #[.int .i64 (last + 1), .int .i64 0]) := by
  obtain ⟨rk, K, T⟩ := ok.tree
  obtain ⟨j, hj, hne, _⟩ := idx_of T.nd hv
  have hz := sizeB_iff.1 hs
  exact .yes (ok_create ok hv hlen x y W H _ (placeB_iff.1 hpl) true) ⟨by omega, Int.le_refl _⟩ (fun w M N s t h => kCreate ok w h v hv x y W H (by omega) (by omega) (by omega) (by omega) hpl hlen hl) (fun w R h => rdCreate ok w h v j hj hne x y W H hpl hs hlen hl l0)
theorem totCreate (ok : DOk L last) (l0 : 0 ≤ last) (hl : last < 9223372036854775807) (n x y W H : Int) : ∃ L' last' a b, Tot 48 96 (fun p => #[.pointer p, .int .i64 n, .int .i64 x, .int .i64 y, .int .i64 W, .int .i64 H]) L last L' last' (.tuple #[.int .i64 a, .int .i64 b]) := by
  by_cases he : createE L n x y W H = 0
  · unfold createE at he
    cases hn : hasN L n with
    | false => rw [if_pos hn] at he; omega
    | true =>
      rw [if_neg (by simp [hn])] at he
      cases hp : placeB x y with
      | false => rw [if_pos hp] at he; omega
      | true =>
        rw [if_neg (by simp [hp])] at he
        cases hs : sizeB W H with
        | false => rw [if_pos hs] at he; omega
        | true =>
          rw [if_neg (by simp [hs])] at he
          by_cases h16 : 16 ≤ L.length
          · rw [if_pos h16] at he; omega
          · obtain ⟨v, hv, rfl, _⟩ := has_ok ok hn
            obtain ⟨a1, a2, a3, a4⟩ := sizeB_iff.1 hs
            obtain ⟨W, rfl⟩ := Int.eq_ofNat_of_zero_le (show 0 ≤ W by omega)
            obtain ⟨H, rfl⟩ := Int.eq_ofNat_of_zero_le (show 0 ≤ H by omega)
            exact ⟨_, _, _, _, totCreateYes ok l0 hl v hv x y W H hp hs (by omega)⟩
  · exact ⟨L, last, _, _, .no ok (fun w M N s t h => Calls.below (kCreateNo ok w h n x y W H he)) (fun w R h => Calls.below (rdCreateNo ok w h n x y W H he))⟩
theorem totWriteYes (ok : DOk L last) (v : Wn) (hv : v ∈ L) (x y : Int) (hpl : placeB x y = true) (b : ByteArray) (hb : b.size ≤ 200) (p : Pn) (hpn : penB p = true) :
    Tot 31 32 (fun q => #[.pointer q, .int .i64 v.n, .int .i64 x, .int .i64 y, .string b, p.agg]) L last (updL L v.n (fun u => { u with G := writeAll v.W v.H y p x (runesG b b.size 0) v.G })) last (.int .i64 0) := by
  obtain ⟨rk, K, T⟩ := ok.tree
  obtain ⟨j, hj, hne, _⟩ := idx_of T.nd hv
  exact .yes (ok_updL ok (fun _ _ e => e) (fun _ _ _ => rfl) (fun u hu _ => ok.pl u hu)) ⟨Int.le_refl _, by omega⟩ (fun w M N s t h => kWrite ok w h v hv x y hpl b hb p hpn) (fun w R h => rdWrite ok w h v j hj hne x y hpl b hb p hpn)
theorem totWrite (ok : DOk L last) (n x y : Int) (b : ByteArray) (p : Pn) : ∃ L' r, Tot 31 32 (fun q => #[.pointer q, .int .i64 n, .int .i64 x, .int .i64 y, .string b, p.agg]) L last L' last (.int .i64 r) := by
  by_cases he : writeE L n x y b p = 0
  · unfold writeE at he
    cases hn : hasN L n with
    | false => rw [if_pos hn] at he; omega
    | true =>
      rw [if_neg (by simp [hn])] at he
      cases hp : placeB x y with
      | false => rw [if_pos hp] at he; omega
      | true =>
        rw [if_neg (by simp [hp])] at he
        by_cases hb : 200 < b.size
        · rw [if_pos hb] at he; omega
        · rw [if_neg hb] at he
          cases hpn : penB p with
          | false => rw [if_pos hpn] at he; omega
          | true =>
            obtain ⟨v, hv, rfl, _⟩ := has_ok ok hn
            exact ⟨_, _, totWriteYes ok v hv x y hp b (by omega) p hpn⟩
  · exact ⟨L, _, .no ok (fun w M N s t h => kWriteNo ok w h n x y b p he) (fun w R h => rdWriteNo ok w h n x y b p he)⟩
theorem totFill (ok : DOk L last) (n x y ww hh : Int) (p : Pn) : ∃ L' r, Tot 33 34 (fun q => #[.pointer q, .int .i64 n, .int .i64 x, .int .i64 y, .int .i64 ww, .int .i64 hh, p.agg]) L last L' last (.int .i64 r) := by
  by_cases he : fillE L n x y ww hh p = 0
  · unfold fillE at he
    cases hn : hasN L n with
    | false => rw [if_pos hn] at he; omega
    | true =>
      rw [if_neg (by simp [hn])] at he
      cases hp : placeB x y with
      | false => rw [if_pos hp] at he; omega
      | true =>
        rw [if_neg (by simp [hp])] at he
        cases hr : rectB ww hh with
        | false => rw [if_pos hr] at he; omega
        | true =>
          rw [if_neg (by simp [hr])] at he
          cases hpn : penB p with
          | false => rw [if_pos hpn] at he; omega
          | true =>
            obtain ⟨v, hv, rfl, j, hj, hne⟩ := has_ok ok hn
            exact ⟨updL L v.n (fun u => { u with G := fillJ v.W x y ww hh p v.G v.H }), _, .yes (ok_updL ok (fun _ _ e => e) (fun _ _ _ => rfl) (fun u hu _ => ok.pl u hu)) ⟨Int.le_refl _, by omega⟩ (fun w M N s t h => kFill ok w h v hv x y ww hh p hp hr hpn) (fun w R h => rdFill ok w h v j hj hne x y ww hh p hp hr hpn)⟩
  · exact ⟨L, _, .no ok (fun w M N s t h => kFillNo ok w h n x y ww hh p he) (fun w R h => rdFillNo ok w h n x y ww hh p he)⟩
theorem totScroll (ok : DOk L last) (n k : Int) : ∃ L' r, Tot 35 36 (fun q => #[.pointer q, .int .i64 n, .int .i64 k]) L last L' last (.int .i64 r) := by
  cases hn : hasN L n with
  | false => exact ⟨L, 1, .no ok (fun w M N s t h => Calls.below (kScrollNo ok w h n k hn)) (fun w R h => Calls.below (rdScrollNo ok w h n k hn))⟩
  | true =>
    obtain ⟨v, hv, rfl, j, hj, hne⟩ := has_ok ok hn
    exact ⟨updL L v.n (fun u => { u with G := scrollG 0 ((v.H : Int) - 1) k Pn.plain v.G }), _, .yes (ok_updL ok (fun _ _ e => e) (fun _ _ _ => rfl) (fun u hu _ => ok.pl u hu)) ⟨Int.le_refl _, by omega⟩ (fun w M N s t h => kScroll ok w h v hv k) (fun w R h => rdScroll ok w h v j hj hne k)⟩
theorem totResize (ok : DOk L last) (x y : Int) : ∃ L' r, Tot 18 37 (fun q => #[.pointer q, .int .i64 x, .int .i64 y]) L last L' last (.int .i64 r) := by
  obtain ⟨rk, K, T⟩ := ok.tree
  cases hz : sizeB x y with
  | false => exact ⟨L, 3, .no ok (fun w M N s t h => Calls.below (kResizeNo w h x y hz)) (fun w R h => Calls.below (rdResizeNo w R.d x y hz))⟩
  | true =>
    obtain ⟨a1, a2, a3, a4⟩ := sizeB_iff.1 hz
    obtain ⟨x, rfl⟩ := Int.eq_ofNat_of_zero_le (show 0 ≤ x by omega)
    obtain ⟨y, rfl⟩ := Int.eq_ofNat_of_zero_le (show 0 ≤ y by omega)
    obtain ⟨r, t', e, h0, h1, h2⟩ := T.head
    have hr : r ∈ L := by rw [e]; exact List.mem_cons_self
    refine ⟨_, _, ⟨ok_updL (n := r.n) (f := fun u => { u with W := x, H := y, G := sizedG r.W r.H x r.G }) ok (fun _ _ e => e) (fun _ _ _ => rfl) (fun u hu _ => ok.pl u hu), ⟨Int.le_refl _, by omega⟩, fun w M N s t hs h => (kResize ok w h hs r hr h0 x y hz).mono (fun e' w' p => ⟨_, _, resizeR_ok hs (by omega) (by omega) (by omega) (by omega), p⟩), fun w R h => rdResize ok w h r (by rw [e]; rfl) x y hz⟩⟩
end
end Go.Proofs.YtjlfibhbfdckpaaGreatDoor
