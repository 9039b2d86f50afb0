/- Texts of the proof, one behind the other: PxB, LaA, Pk, LaB, UdA. -/
import Derived.Test.YtjlfibhbfdckpaaGreatDoorK10
import Derived.Test.YtjlfibhbfdckpaaGreatDoorK17
import Derived.Test.YtjlfibhbfdckpaaGreatDoorK19
import Derived.Deep.RegionHeld3
/- The program's calls alone, and what each keeps. -/
namespace Go.Proofs.YtjlfibhbfdckpaaGreatDoor
open Go.RowKit
section
variable {L : List Wn} {last : Int}
theorem at_of' (ok : DOk L last) (n : Int) : (∃ v ∈ L, v.n = n ∧ ∃ j, j < L.length ∧ L[j]? = some v ∧ (∀ i u, i < j → L[i]? = some u → u.n ≠ n) ∧ filtN L n = L.eraseIdx j ∧ (j = 0 ↔ n = 0)) ∨ hasN L n = false := by
  obtain ⟨rk, K, T⟩ := ok.tree
  by_cases h : hasN L n = true
  · left
    obtain ⟨v, hv, rfl⟩ := hasN_iff.1 h
    obtain ⟨j, h1, h2, h3⟩ := idx_of T.nd hv
    refine ⟨v, hv, rfl, j, (List.getElem?_eq_some_iff.1 h1).1, h1, h2, h3, ?_⟩
    obtain ⟨r, T', e, e1, e2, e3⟩ := T.head
    constructor
    · rintro rfl
      rw [e] at h1
      obtain rfl : r = v := by simpa using h1
      exact e1
    · intro h0
      by_cases hj : j = 0
      · exact hj
      · exact absurd (e1.trans h0.symm) (h2 0 r (by omega) (by rw [e]; rfl))
  · right; simpa using h
theorem child_ok' (ok : DOk L last) {n : Int} (he : childE L n = 0) : ∃ v ∈ L, v.n = n ∧ v.n ≠ 0 ∧ v.par ≠ -1 ∧ (∃ o ∈ L, v.par = o.n ∧ v.n ≠ o.n) ∧ ∃ j : Nat, j ≠ 0 ∧ L[j]? = some v ∧ ∀ (i : Nat) (u : Wn), i < j → L[i]? = some u → u.n ≠ v.n := by
  obtain ⟨rk, K, T⟩ := ok.tree
  unfold childE at he
  rcases at_of' ok n with ⟨v, hv, rfl, j, hjl, hj, hne, _, h0⟩ | hn
  · have hh : hasN L v.n = true := hasN_iff.2 ⟨v, hv, rfl⟩
    rw [if_neg (by simp [hh])] at he
    have e0 : v.n ≠ 0 := fun e => by rw [if_pos e] at he; omega
    have hp : v.par ≠ -1 := fun e => e0 ((T.zero hv).2 e)
    have hp0 : 0 ≤ v.par := by rcases T.parNot hv with e | e <;> omega
    obtain ⟨⟨o, ho, hon⟩, hr⟩ := T.up v hv hp0
    refine ⟨v, hv, rfl, e0, hp, ⟨o, ho, hon.symm, fun e => ?_⟩, j, fun e => e0 (h0.1 e), hj, hne⟩
    rw [hon] at e
    rw [e] at hr
    omega
  · rw [if_pos hn] at he; omega
theorem has_ok' (ok : DOk L last) {n : Int} (he : hasN L n = true) : ∃ v ∈ L, v.n = n ∧ ∃ j : Nat, L[j]? = some v ∧ ∀ (i : Nat) (u : Wn), i < j → L[i]? = some u → u.n ≠ v.n := by
  rcases at_of' ok n with ⟨v, hv, rfl, j, hjl, hj, hne, _, h0⟩ | hn
  · exact ⟨v, hv, rfl, j, hj, hne⟩
  · rw [hn] at he; simp at he
theorem Calls.below' {f : Nat} {a : Array Value} {w : World} {r : Value} (h : Calls Tryz.prog f a w fun e w' => e = .returned r ∧ w' = w) : Calls Tryz.prog f a w fun e w' => e = .returned r ∧ Below w.heap.size w w' :=
  h.mono (by rintro e w' ⟨rfl, rfl⟩; exact ⟨rfl, Below.refl _ _⟩)
end
/-- One step of the program's desk: c is the error. -/
structure Tx (fx : Nat) (a : Option Addr → Array Value) (L : List Wn) (last : Int) (L' : List Wn) (last' : Int) (r : Value) (c : Int) (f : Rs → Rs) : Prop where
  ok : DOk L' last'
  le : last ≤ last' ∧ last' ≤ last + 1
  pens : PensOk L → PensOk L'
  fit : ∀ s : Rs, Fits L s.W s.H → Fits L' (f s).W (f s).H
  fl : ∀ s : Rs, s.Fl → (f s).Fl
  so : ∀ s : Rs, s.Ok → (f s).Ok
  err : c ≠ 0 → L' = L ∧ last' = last
  x : ∀ (w : World) (M : Mm) (N : Nat) (s : Rs) (t : Pt), s.Ok → DkAt w M L last N s t → Calls Tryz.prog fx (a (some ⟨M.t 0, 0, none⟩)) w (DPostG M L L' last' (f s) t w r)
section
variable {L : List Wn} {last : Int}
theorem Tx.no {fx : Nat} {a : Option Addr → Array Value} {r : Value} {c : Int} (ok : DOk L last)
    (hx : ∀ (w : World) (M : Mm) (N : Nat) (s : Rs) (t : Pt), DkAt w M L last N s t → Calls Tryz.prog fx (a (some ⟨M.t 0, 0, none⟩)) w fun e w' => e = .returned r ∧ Below w.heap.size w w') : Tx fx a L last L last r c id :=
  ⟨ok, ⟨Int.le_refl _, by omega⟩, id, fun _ h => h, fun _ h => h, fun _ h => h, fun _ => ⟨rfl, rfl⟩, fun w M N s t _ h => (hx w M N s t h).mono (by rintro e w' ⟨rfl, b⟩; exact (DPost.stay h b).toG)⟩
theorem Tx.yes {fx : Nat} {a : Option Addr → Array Value} {r : Value} {L' : List Wn} {last' : Int} (ok : DOk L' last') (le : last ≤ last' ∧ last' ≤ last + 1) (pens : PensOk L → PensOk L') (fit : ∀ W H : Nat, Fits L W H → Fits L' W H)
    (hx : ∀ (w : World) (M : Mm) (N : Nat) (s : Rs) (t : Pt), DkAt w M L last N s t → Calls Tryz.prog fx (a (some ⟨M.t 0, 0, none⟩)) w (DPost M L L' last' N s t w r)) : Tx fx a L last L' last' r 0 id :=
  ⟨ok, le, pens, fun _ h => fit _ _ h, fun _ h => h, fun _ h => h, fun h => absurd rfl h, fun w M N s t _ h => (hx w M N s t h).mono (fun _ _ p => p.toG)⟩
theorem txShow (ok : DOk L last) (n : Int) (b : Bool) : ∃ L' c, Tx 53 (fun p => #[.pointer p, .int .i64 n, .bool b]) L last L' last (.int .i64 c) c id := by
  by_cases he : childE L n = 0
  · obtain ⟨v, hv, rfl, v0, hp, _, j, j0, hj, hne⟩ := child_ok' ok he
    exact ⟨updL L v.n (fun u => { u with sh := b }), 0, .yes (ok_updL ok (fun _ _ e => e) (fun _ _ _ => rfl) (fun u hu _ => ok.pl u hu)) ⟨Int.le_refl _, by omega⟩ (fun p => p.upd _ (fun u hu _ => p u hu)) (fun _ _ q => q.upd _ (fun _ _ _ e => ⟨e, rfl, rfl⟩)) (fun w M N s t h => kShow ok w h v hv hp b)⟩
  · exact ⟨L, _, .no ok (fun w M N s t h => Calls.below' (kShowNo ok w h n b he))⟩
theorem txMove (ok : DOk L last) (n x y : Int) : ∃ L' c, Tx 50 (fun p => #[.pointer p, .int .i64 n, .int .i64 x, .int .i64 y]) L last L' last (.int .i64 c) c id := by
  by_cases he : childE L n = 0
  · obtain ⟨v, hv, rfl, v0, hp, _, j, j0, hj, hne⟩ := child_ok' ok he
    cases hpl : placeB x y with
    | true => exact ⟨updL L v.n (fun u => { u with x := x, y := y }), 0, .yes (ok_updL ok (fun _ _ e => e) (fun _ _ _ => rfl) (fun u hu _ => placeB_iff.1 hpl)) ⟨Int.le_refl _, by omega⟩ (fun p => p.upd _ (fun u hu _ => p u hu)) (fun _ _ q => q.upd _ (fun _ _ _ e => ⟨e, rfl, rfl⟩)) (fun w M N s t h => kMove ok w h v hv hp x y hpl)⟩
    | false => exact ⟨L, 4, .no ok (fun w M N s t h => Calls.below' (kMoveOff ok w h v hv hp x y hpl))⟩
  · exact ⟨L, _, .no ok (fun w M N s t h => Calls.below' (kMoveNo ok w h n x y he))⟩
theorem txShape (ok : DOk L last) (n x y : Int) : ∃ L' c, Tx 51 (fun p => #[.pointer p, .int .i64 n, .int .i64 x, .int .i64 y]) L last L' last (.int .i64 c) c id := by
  by_cases he : childE L n = 0
  · obtain ⟨v, hv, rfl, v0, hp, _, j, j0, hj, hne⟩ := child_ok' ok he
    cases hpl : sizeB x y with
    | true =>
      obtain ⟨a1, a2, a3, a4⟩ := sizeB_iff.1 hpl
      obtain ⟨x, rfl⟩ := Int.eq_ofNat_of_zero_le (show 0 ≤ x by omega)
      obtain ⟨y, rfl⟩ := Int.eq_ofNat_of_zero_le (show 0 ≤ y by omega)
      exact ⟨updL L v.n (fun u => { u with W := x, H := y, G := sizedG v.W v.H x v.G }), 0, .yes (ok_updL ok (fun _ _ e => e) (fun _ _ _ => rfl) (fun u hu _ => ok.pl u hu)) ⟨Int.le_refl _, by omega⟩ (fun p => p.upd _ (fun u hu _ => (p v hv).sized x y)) (fun _ _ q => q.upd _ (fun u hu e0 e => absurd (e0.symm.trans e) v0)) (fun w M N s t h => kShape ok w h v hv hp x y hpl)⟩
    | false => exact ⟨L, 3, .no ok (fun w M N s t h => Calls.below' (kShapeOff ok w h v hv hp x y hpl))⟩
  · exact ⟨L, _, .no ok (fun w M N s t h => Calls.below' (kShapeNo ok w h n x y he))⟩
theorem txRaise (ok : DOk L last) (n : Int) (b : Bool) : ∃ L' c, Tx 52 (fun p => #[.pointer p, .int .i64 n, .bool b]) L last L' last (.int .i64 c) c id := by
  by_cases he : childE L n = 0
  · obtain ⟨v, hv, rfl, v0, hp, ⟨o, ho, hpo, hvo⟩, j, j0, hj, hne⟩ := child_ok' ok he
    cases b with
    | true =>
      refine ⟨topL L v o.n, 0, .yes (ok_top ok hv v0 ho (par_ns ok hv ho hpo)) ⟨Int.le_refl _, by omega⟩ (fun p => p.top hv _) (fun _ _ q => q.top hv _) (fun w M N s t h => kRaise ok w h v hv hp true _ (dRaiseUp ok w h v o hv ho hpo hvo))⟩
    | false => exact ⟨botL L v, 0, .yes (ok_bot ok hv v0) ⟨Int.le_refl _, by omega⟩ (fun p => p.bot hv) (fun _ _ q => q.bot hv) (fun w M N s t h => kRaise ok w h v hv hp false _ (dRaiseLow ok w h v o hv ho hpo hvo))⟩
  · exact ⟨L, _, .no ok (fun w M N s t h => Calls.below' (kRaiseNo ok w h n b he))⟩
theorem txDelete (ok : DOk L last) (n : Int) : ∃ L' c, Tx 49 (fun p => #[.pointer p, .int .i64 n]) L last L' last (.int .i64 c) c id := by
  by_cases he : childE L n = 0
  · obtain ⟨v, hv, rfl, v0, hp, ⟨o, ho, hpo, hvo⟩, j, j0, hj, hne⟩ := child_ok' ok he
    exact ⟨delL L v.n, 0, .yes (ok_del ok hv v0) ⟨Int.le_refl _, by omega⟩ (fun p => p.del _) (fun _ _ q => q.del _) (fun w M N s t h => kDelete ok w h v o hv ho hpo hvo hp)⟩
  · exact ⟨L, _, .no ok (fun w M N s t h => Calls.below' (kDeleteNo ok w h n he))⟩
theorem txGive (ok : DOk L last) (n m : Int) : ∃ L' c, Tx 54 (fun p => #[.pointer p, .int .i64 n, .int .i64 m]) L last L' last (.int .i64 c) c id := by
  obtain ⟨rk, K, T⟩ := ok.tree
  cases hm : hasN L m with
  | false => exact ⟨L, 1, .no ok (fun w M N s t h => Calls.below' (kGiveNone ok w h n m hm))⟩
  | true =>
    obtain ⟨q, hq, rfl, k, hk, hnk⟩ := has_ok' ok hm
    by_cases he : childE L n = 0
    · obtain ⟨v, hv, rfl, v0, hp, ⟨o, ho, hpo, hvo⟩, j, j0, hj, hne⟩ := child_ok' ok he
      by_cases hs : Sub L v.n q.n
      · exact ⟨L, 5, .no ok (fun w M N s t h => Calls.below' (kGiveLoop T ok w h v q hv hq hp hs))⟩
      · exact ⟨topL L v q.n, 0, .yes (ok_top ok hv v0 hq hs) ⟨Int.le_refl _, by omega⟩ (fun p => p.top hv _) (fun _ _ q => q.top hv _) (fun w M N s t h => kGive T ok w h v o q hv ho hq hpo hvo hs)⟩
    · exact ⟨L, _, .no ok (fun w M N s t h => Calls.below' (kGiveNo ok w h n q hq he))⟩
theorem txCreateYes (ok : DOk L last) (l0 : 0 ≤ last) (hl : last < 9223372036854775807) (v : Wn) (hv : v ∈ L) (x y : Int) (W H : Nat) (hpl : placeB x y = true) (hs : sizeB W H = true) (hlen : L.length < 16) :
    Tx 48 (fun p => #[.pointer p, .int .i64 v.n, .int .i64 x, .int .i64 y, .int .i64 W, .int .i64 H]) L last (L ++ [⟨last + 1, v.n, x, y, true, W, H, fun _ _ => blk Pn.plain⟩]) (last + 1) (.tuple #[.int .i64 (last + 1), .int .i64 0]) 0 id := by
  obtain ⟨rk, K, T⟩ := ok.tree
  obtain ⟨j, hj, hne, _⟩ := idx_of T.nd hv
  have hz := sizeB_iff.1 hs
  exact .yes (ok_create ok hv hlen x y W H _ (placeB_iff.1 hpl) true) ⟨by omega, Int.le_refl _⟩ (fun p => p.app (pens_plain W H)) (fun _ _ q => q.app (fun e => absurd e (by show ¬ last + 1 = 0; omega))) (fun w M N s t h => kCreate ok w h v hv x y W H (by omega) (by omega) (by omega) (by omega) hpl hlen hl)
theorem txCreate (ok : DOk L last) (l0 : 0 ≤ last) (hl : last < 9223372036854775807) (n x y W H : Int) : ∃ L' last' a c, Tx 48 (fun p => #[.pointer p, .int .i64 n, .int .i64 x, .int .i64 y, .int .i64 W, .int .i64 H]) L last L' last' (.tuple #[.int .i64 a, .int .i64 c]) c id := by
  by_cases he : createE L n x y W H = 0
  · unfold createE at he
    cases hn : hasN L n with
    | false => rw [if_pos hn] at he; omega
    | true =>
      rw [if_neg (by simp [hn])] at he
      cases hp : placeB x y with
      | false => rw [if_pos hp] at he; omega
      | true =>
        rw [if_neg (by simp [hp])] at he
        cases hs : sizeB W H with
        | false => rw [if_pos hs] at he; omega
        | true =>
          rw [if_neg (by simp [hs])] at he
          by_cases h16 : 16 ≤ L.length
          · rw [if_pos h16] at he; omega
          · obtain ⟨v, hv, rfl, _⟩ := has_ok' ok hn
            obtain ⟨a1, a2, a3, a4⟩ := sizeB_iff.1 hs
            obtain ⟨W, rfl⟩ := Int.eq_ofNat_of_zero_le (show 0 ≤ W by omega)
            obtain ⟨H, rfl⟩ := Int.eq_ofNat_of_zero_le (show 0 ≤ H by omega)
            exact ⟨_, _, _, _, txCreateYes ok l0 hl v hv x y W H hp hs (by omega)⟩
  · exact ⟨L, last, _, _, .no ok (fun w M N s t h => Calls.below' (kCreateNo ok w h n x y W H he))⟩
theorem txWriteYes (ok : DOk L last) (v : Wn) (hv : v ∈ L) (x y : Int) (hpl : placeB x y = true) (b : ByteArray) (hb : b.size ≤ 200) (p : Pn) (hpn : penB p = true) :
    Tx 31 (fun q => #[.pointer q, .int .i64 v.n, .int .i64 x, .int .i64 y, .string b, p.agg]) L last (updL L v.n (fun u => { u with G := writeAll v.W v.H y p x (runesG b b.size 0) v.G })) last (.int .i64 0) 0 id := by
  obtain ⟨rk, K, T⟩ := ok.tree
  obtain ⟨j, hj, hne, _⟩ := idx_of T.nd hv
  exact .yes (ok_updL ok (fun _ _ e => e) (fun _ _ _ => rfl) (fun u hu _ => ok.pl u hu)) ⟨Int.le_refl _, by omega⟩ (fun q => q.upd _ (fun u hu e => by rw [nd_inj T.nd hu hv e]; exact Pens.writeAll (penB_ok hpn) _ _ (q v hv))) (fun _ _ q => q.upd _ (fun _ _ _ e => ⟨e, rfl, rfl⟩)) (fun w M N s t h => kWrite ok w h v hv x y hpl b hb p hpn)
theorem txWrite (ok : DOk L last) (n x y : Int) (b : ByteArray) (p : Pn) : ∃ L' c, Tx 31 (fun q => #[.pointer q, .int .i64 n, .int .i64 x, .int .i64 y, .string b, p.agg]) L last L' last (.int .i64 c) c id := by
  by_cases he : writeE L n x y b p = 0
  · unfold writeE at he
    cases hn : hasN L n with
    | false => rw [if_pos hn] at he; omega
    | true =>
      rw [if_neg (by simp [hn])] at he
      cases hp : placeB x y with
      | false => rw [if_pos hp] at he; omega
      | true =>
        rw [if_neg (by simp [hp])] at he
        by_cases hb : 200 < b.size
        · rw [if_pos hb] at he; omega
        · rw [if_neg hb] at he
          cases hpn : penB p with
          | false => rw [if_pos hpn] at he; omega
          | true =>
            obtain ⟨v, hv, rfl, _⟩ := has_ok' ok hn
            exact ⟨_, _, txWriteYes ok v hv x y hp b (by omega) p hpn⟩
  · exact ⟨L, _, .no ok (fun w M N s t h => kWriteNo ok w h n x y b p he)⟩
theorem txFill (ok : DOk L last) (n x y ww hh : Int) (p : Pn) : ∃ L' c, Tx 33 (fun q => #[.pointer q, .int .i64 n, .int .i64 x, .int .i64 y, .int .i64 ww, .int .i64 hh, p.agg]) L last L' last (.int .i64 c) c id := by
  by_cases he : fillE L n x y ww hh p = 0
  · unfold fillE at he
    cases hn : hasN L n with
    | false => rw [if_pos hn] at he; omega
    | true =>
      rw [if_neg (by simp [hn])] at he
      cases hp : placeB x y with
      | false => rw [if_pos hp] at he; omega
      | true =>
        rw [if_neg (by simp [hp])] at he
        cases hr : rectB ww hh with
        | false => rw [if_pos hr] at he; omega
        | true =>
          rw [if_neg (by simp [hr])] at he
          cases hpn : penB p with
          | false => rw [if_pos hpn] at he; omega
          | true =>
            obtain ⟨v, hv, rfl, j, hj, hne⟩ := has_ok' ok hn
            exact ⟨updL L v.n (fun u => { u with G := fillJ v.W x y ww hh p v.G v.H }), _, .yes (ok_updL ok (fun _ _ e => e) (fun _ _ _ => rfl) (fun u hu _ => ok.pl u hu)) ⟨Int.le_refl _, by omega⟩ (fun q => q.upd _ (fun u hu e => by obtain ⟨rk, K, T⟩ := ok.tree; rw [nd_inj T.nd hu hv e]; exact (q v hv).fill x y ww hh (penB_ok hpn) _)) (fun _ _ q => q.upd _ (fun _ _ _ e => ⟨e, rfl, rfl⟩)) (fun w M N s t h => kFill ok w h v hv x y ww hh p hp hr hpn)⟩
  · exact ⟨L, _, .no ok (fun w M N s t h => kFillNo ok w h n x y ww hh p he)⟩
theorem txScroll (ok : DOk L last) (n k : Int) : ∃ L' c, Tx 35 (fun q => #[.pointer q, .int .i64 n, .int .i64 k]) L last L' last (.int .i64 c) c id := by
  cases hn : hasN L n with
  | false => exact ⟨L, 1, .no ok (fun w M N s t h => Calls.below' (kScrollNo ok w h n k hn))⟩
  | true =>
    obtain ⟨v, hv, rfl, j, hj, hne⟩ := has_ok' ok hn
    exact ⟨updL L v.n (fun u => { u with G := scrollG 0 ((v.H : Int) - 1) k Pn.plain v.G }), _, .yes (ok_updL ok (fun _ _ e => e) (fun _ _ _ => rfl) (fun u hu _ => ok.pl u hu)) ⟨Int.le_refl _, by omega⟩ (fun q => q.upd _ (fun u hu e => by obtain ⟨rk, K, T⟩ := ok.tree; rw [nd_inj T.nd hu hv e]; exact (q v hv).scroll 0 _ k (by omega) (by omega) plain_ok)) (fun _ _ q => q.upd _ (fun _ _ _ e => ⟨e, rfl, rfl⟩)) (fun w M N s t h => kScroll ok w h v hv k)⟩
theorem txResize (ok : DOk L last) (x y : Int) : ∃ L' c, Tx 18 (fun q => #[.pointer q, .int .i64 x, .int .i64 y]) L last L' last (.int .i64 c) c (rszR x y) := by
  obtain ⟨rk, K, T⟩ := ok.tree
  cases hz : sizeB x y with
  | false =>
    have e : rszR x y = id := by funext s; unfold rszR; rw [hz]; rfl
    rw [e]
    exact ⟨L, 3, .no ok (fun w M N s t h => Calls.below' (kResizeNo w h x y hz))⟩
  | true =>
    have e : rszR x y = fun s => resizeR s x.toNat y.toNat := by funext s; unfold rszR; rw [hz]; rfl
    rw [e]
    obtain ⟨a1, a2, a3, a4⟩ := sizeB_iff.1 hz
    obtain ⟨x, rfl⟩ := Int.eq_ofNat_of_zero_le (show 0 ≤ x by omega)
    obtain ⟨y, rfl⟩ := Int.eq_ofNat_of_zero_le (show 0 ≤ y by omega)
    obtain ⟨r, t', e, h0, h1, h2⟩ := T.head
    have hr : r ∈ L := by rw [e]; exact List.mem_cons_self
    simp only [Int.toNat_natCast]
    refine ⟨_, _, ⟨ok_updL (n := r.n) (f := fun u => { u with W := x, H := y, G := sizedG r.W r.H x r.G }) ok (fun _ _ e => e) (fun _ _ _ => rfl) (fun u hu _ => ok.pl u hu), ⟨Int.le_refl _, by omega⟩, fun p => p.upd _ (fun u hu _ => (p r hr).sized x y), fun s h => ?_, fun s h => resizeR_fl h (by omega) (by omega) (by omega) (by omega), fun s h => resizeR_ok h (by omega) (by omega) (by omega) (by omega), fun h => absurd rfl h, fun w M N s t hs h => kResize ok w h hs r hr h0 x y hz⟩⟩
    intro v hv hv0
    unfold updL at hv
    obtain ⟨u, hu, rfl⟩ := List.mem_map.1 hv
    split at hv0
    · rename_i eu
      rw [if_pos eu]
      exact ⟨rfl, rfl⟩
    · rename_i eu
      exact absurd (hv0.trans h0.symm) eu
end
end Go.Proofs.YtjlfibhbfdckpaaGreatDoor

/- Laid: three windows: plain mathematics. -/
namespace Go.Proofs.YtjlfibhbfdckpaaGreatDoor
open Wd (wd)
def oneW (x y : Int) : Wn := ⟨1, 0, x, y, true, 6, 3, fun _ _ => blk Pn.plain⟩
def twoW (v z : Int) (G : Nat → Nat → Cel) : Wn := ⟨2, 1, v, z, true, 4, 2, G⟩
def laidL (x y v z : Int) (G : Nat → Nat → Cel) : List Wn := [rootW 10 5, oneW x y, twoW v z G]
theorem laid_k0 (x y v z : Int) (G : Nat → Nat → Cel) : kids (laidL x y v z G) 0 = [oneW x y] := by simp [kids, laidL, rootW, oneW, twoW]
theorem laid_k1 (x y v z : Int) (G : Nat → Nat → Cel) : kids (laidL x y v z G) 1 = [twoW v z G] := by simp [kids, laidL, rootW, oneW, twoW]
theorem laid_k2 (x y v z : Int) (G : Nat → Nat → Cel) : kids (laidL x y v z G) 2 = [] := by simp [kids, laidL, rootW, oneW, twoW]
def laidRk (n : Int) : Nat := n.toNat
theorem laid_tree (x y v z : Int) (G : Nat → Nat → Cel) : Tree (laidL x y v z G) laidRk 2 := by
  refine ⟨⟨rootW 10 5, [oneW x y, twoW v z G], rfl, rfl, rfl, ?_⟩, ?_, ?_, ?_⟩
  · intro u hu
    simp only [List.mem_cons, List.not_mem_nil, or_false] at hu
    rcases hu with rfl | rfl <;> simp [oneW, twoW]
  · simp [laidL, rootW, oneW, twoW]
  · intro u hu hp
    simp only [laidL, List.mem_cons, List.not_mem_nil, or_false] at hu
    rcases hu with rfl | rfl | rfl
    · simp [rootW] at hp
    · exact ⟨⟨rootW 10 5, by simp [laidL], rfl⟩, by show laidRk 0 < laidRk 1; decide⟩
    · exact ⟨⟨oneW x y, by simp [laidL], rfl⟩, by show laidRk 1 < laidRk 2; decide⟩
  · intro u hu
    simp only [laidL, List.mem_cons, List.not_mem_nil, or_false] at hu
    rcases hu with rfl | rfl | rfl
    · show laidRk 0 ≤ 2; decide
    · show laidRk 1 ≤ 2; decide
    · show laidRk 2 ≤ 2; decide
theorem laid_ok (x y v z : Int) (G : Nat → Nat → Cel) (hx : -1000 ≤ x ∧ x ≤ 1000 ∧ -1000 ≤ y ∧ y ≤ 1000) (hv : -1000 ≤ v ∧ v ≤ 1000 ∧ -1000 ≤ z ∧ z ≤ 1000) : DOk (laidL x y v z G) 2 := by
  refine ⟨⟨_, _, laid_tree x y v z G⟩, ?_, by simp [laidL], ?_⟩
  · intro u hu
    simp only [laidL, List.mem_cons, List.not_mem_nil, or_false] at hu
    rcases hu with rfl | rfl | rfl <;> simp [rootW, oneW, twoW]
  · intro u hu
    simp only [laidL, List.mem_cons, List.not_mem_nil, or_false] at hu
    rcases hu with rfl | rfl | rfl
    · simp [rootW]
    · exact hx
    · exact hv
/-- What is to be seen. -/
def wantC (x y v z : Int) (l : List Int) (p : Pn) (k i : Int) : Cel :=
  if (x ≤ k ∧ k < x + 6 ∧ y ≤ i ∧ i < y + 3) ∧ i = y + z + 1 ∧ 0 ≤ k - x - v ∧ k - x - v < l.length then ⟨l.getD (k - x - v).toNat 0, 0, p⟩ else blk Pn.plain
/-- What the innermost window holds. -/
def lineG (l : List Int) (p : Pn) : Nat → Nat → Cel := fun a b => if b = 1 ∧ a < l.length then ⟨l.getD a 0, 0, p⟩ else blk Pn.plain
theorem set_plain {W H : Nat} {G : Nat → Nat → Cel} (h : ∀ a b, (G a b).p = 0) (x y : Nat) (hx : x < W) (hy : y < H) (k : Cel) : setG W H G x y k = upd G x y k := by
  unfold setG
  rw [if_pos (inG_iff.2 (by omega))]
  simp only [Int.toNat_natCast, h]
  rfl
theorem write_line (p : Pn) : ∀ (l m : List Int), (∀ r ∈ l, wd r = 1) → m.length + l.length ≤ 4 → writeAll 4 2 1 p (m.length : Int) l (lineG m p) = lineG (m ++ l) p := by
  intro l
  induction l with
  | nil => intro m _ _; rw [List.append_nil]; rfl
  | cons r l ih =>
    intro m hl hm
    simp only [List.length_cons] at hm
    have hr := hl r List.mem_cons_self
    have hz : ∀ a b, (lineG m p a b).p = 0 := by intro a b; unfold lineG; split <;> rfl
    unfold writeAll
    have e : writeG 4 2 (lineG m p) (m.length : Int) 1 r p = lineG (m ++ [r]) p := by
      unfold writeG
      rw [if_pos hr]
      have := set_plain (W := 4) (H := 2) hz m.length 1 (by omega) (by omega) ⟨r, 0, p⟩
      rw [show (((1 : Nat) : Int)) = 1 from rfl] at this
      rw [this]
      funext a b
      unfold upd lineG
      by_cases e1 : a = m.length ∧ b = 1
      · obtain ⟨rfl, rfl⟩ := e1
        simp
      · rw [if_neg e1]
        by_cases e2 : b = 1 ∧ a < m.length
        · rw [if_pos e2, if_pos ⟨e2.1, by simp; omega⟩]
          simp [List.getD, List.getElem?_append_left e2.2]
        · rw [if_neg e2, if_neg]
          rintro ⟨e3, e4⟩
          simp at e4
          omega
    rw [e, hr]
    have hm1 : (m ++ [r]).length = m.length + 1 := by simp
    have := ih (m ++ [r]) (fun q hq => hl q (List.mem_cons_of_mem _ hq)) (by rw [hm1]; omega)
    rw [hm1] at this
    rw [show (m.length : Int) + 1 = ((m.length + 1 : Nat) : Int) by omega, this]
    simp
theorem lineG_nil (p : Pn) : lineG [] p = fun _ _ => blk Pn.plain := by funext a b; simp [lineG]
theorem laid_next0 (x y v z : Int) (G : Nat → Nat → Cel) (k i : Int) : nextP (laidL x y v z G) 0 k i = if inG 6 3 (k - x) (i - y) = true then some (oneW x y) else none := by
  unfold nextP
  rw [laid_k0]
  by_cases h : inG 6 3 (k - x) (i - y) = true
  · rw [if_pos h]; simp [hit, oneW, h]
  · rw [if_neg h]; simp [hit, oneW, h]
theorem laid_next1 (x y v z : Int) (G : Nat → Nat → Cel) (k i : Int) : nextP (laidL x y v z G) 1 k i = if inG 4 2 (k - v) (i - z) = true then some (twoW v z G) else none := by
  unfold nextP
  rw [laid_k1]
  by_cases h : inG 4 2 (k - v) (i - z) = true
  · rw [if_pos h]; simp [hit, twoW, h]
  · rw [if_neg h]; simp [hit, twoW, h]
theorem laid_own (x y v z : Int) (G : Nat → Nat → Cel) (k i : Int) : ownP (laidL x y v z G) 2 (rootW 10 5) k i = if inG 6 3 (k - x) (i - y) = true then (if inG 4 2 (k - x - v) (i - y - z) = true then (twoW v z G, k - x - v, i - y - z) else (oneW x y, k - x, i - y)) else (rootW 10 5, k, i) := by
  show (match nextP (laidL x y v z G) 0 k i with | none => _ | some u => _) = _
  rw [laid_next0]
  by_cases h : inG 6 3 (k - x) (i - y) = true
  · rw [if_pos h, if_pos h]
    show (match nextP (laidL x y v z G) 1 (k - x) (i - y) with | none => _ | some u => _) = _
    rw [laid_next1]
    by_cases h2 : inG 4 2 (k - x - v) (i - y - z) = true
    · rw [if_pos h2, if_pos h2]; rfl
    · rw [if_neg h2, if_neg h2]; rfl
  · rw [if_neg h, if_neg h]
theorem pic_of {L : List Wn} {K : Nat} {r o : Wn} {x y a b : Int} {c : Cel} (h : ownP L K r x y = (o, a, b)) (hc : o.G a.toNat b.toNat = c) (hp : c.p = 0) : picP L K r x y = c := by
  unfold picP
  simp only [h, hc, hp]
  simp
/-- The picture is what is to be seen. -/
theorem laid_pic (x y v z : Int) (l : List Int) (p : Pn) (hl : l.length ≤ 4) (k i : Int) : picP (laidL x y v z (lineG l p)) 2 (rootW 10 5) k i = wantC x y v z l p k i := by
  unfold wantC
  have ho := laid_own x y v z (lineG l p) k i
  by_cases h : inG 6 3 (k - x) (i - y) = true
  · obtain ⟨a1, a2, a3, a4⟩ := inG_iff.1 h
    rw [if_pos h] at ho
    by_cases h2 : inG 4 2 (k - x - v) (i - y - z) = true
    · obtain ⟨b1, b2, b3, b4⟩ := inG_iff.1 h2
      rw [if_pos h2] at ho
      by_cases h3 : (i - y - z).toNat = 1 ∧ (k - x - v).toNat < l.length
      · rw [if_pos ⟨by omega, by omega, by omega, by omega⟩]
        exact pic_of ho (by show lineG l p _ _ = _; unfold lineG; rw [if_pos h3]) rfl
      · rw [if_neg (by omega)]
        exact pic_of ho (by show lineG l p _ _ = _; unfold lineG; rw [if_neg h3]) rfl
    · rw [if_neg h2] at ho
      have h5 : ¬ (0 ≤ k - x - v ∧ k - x - v < (4 : Nat) ∧ 0 ≤ i - y - z ∧ i - y - z < (2 : Nat)) := fun hc => h2 (inG_iff.2 (by omega))
      rw [if_neg (by omega)]
      exact pic_of ho rfl rfl
  · rw [if_neg h] at ho
    have h5 : ¬ (0 ≤ k - x ∧ k - x < (6 : Nat) ∧ 0 ≤ i - y ∧ i - y < (3 : Nat)) := fun hc => h (inG_iff.2 (by omega))
    rw [if_neg (by omega)]
    exact pic_of ho rfl rfl
end Go.Proofs.YtjlfibhbfdckpaaGreatDoor

/- The statements' pick. -/
namespace Go.Proofs.YtjlfibhbfdckpaaGreatDoor
open Go.RowKit
attribute [local go_sem ↓] Go.wp_at_zero Go.wp_at_succ
def pickK (c : Int) (n : Nat) : Nat := ((if c < 0 then -(c + 1) else c) % n).toNat
theorem pickK_lt (c : Int) {n : Nat} (h : 0 < n) : pickK c n < n := by
  unfold pickK
  have := Int.emod_lt_of_pos (if c < 0 then -(c + 1) else c) (show (0 : Int) < n by omega)
  have := Int.emod_nonneg (if c < 0 then -(c + 1) else c) (show (n : Int) ≠ 0 by omega)
  omega
theorem pickK_pos {c : Int} {n : Nat} (h : 0 < n) (hc : ¬ c < 0) : c.tmod n = pickK c n := by
  unfold pickK
  rw [if_neg hc, Int.toNat_of_nonneg (Int.emod_nonneg _ (by omega)), Int.tmod_eq_emod_of_nonneg (by omega)]
theorem pickK_neg {c : Int} {n : Nat} (h : 0 < n) (hc : c < 0) : (-(c + 1)).tmod n = pickK c n := by
  unfold pickK
  rw [if_pos hc, Int.toNat_of_nonneg (Int.emod_nonneg _ (by omega)), Int.tmod_eq_emod_of_nonneg (by omega)]
set_option maxHeartbeats 1000000 in
theorem kPick (c : Int) (n : Nat) (w : World) (hn : 0 < n) (hn2 : (n : Int) ≤ 9223372036854775807) (c0 : -9223372036854775808 ≤ c) (c1 : c ≤ 9223372036854775807) :
    Calls Tryz.prog 16 #[.int .i64 c, .int .i64 n] w fun e w' => e = .returned (.int .i64 (pickK c n)) ∧ w' = w := by
  have n0 : ¬ (n : Int) = 0 := by omega
  have n0' : ((n : Int) == 0) = false := by simp; omega
  have lt := pickK_lt c hn
  by_cases hc : c < 0
  · have e := pickK_neg hn hc
    go_enter Tryz.func16, Tryz.ntmps16
    go_wp2
    go_ret
    exact ⟨rfl, rfl⟩
  · have e := pickK_pos hn hc
    go_enter Tryz.func16, Tryz.ntmps16
    go_wp2
    go_ret
    exact ⟨rfl, rfl⟩
end Go.Proofs.YtjlfibhbfdckpaaGreatDoor

/- Laid: pen, opens. -/
namespace Go.Proofs.YtjlfibhbfdckpaaGreatDoor
open Go.RowKit
attribute [local go_sem ↓] Go.wp_at_zero Go.wp_at_succ
def penK (p : Pn) : Pn := { p with f := pickK p.f 9, b := pickK p.b 9 }
theorem penK_ok (p : Pn) : penB (penK p) = true := by
  have h1 := pickK_lt p.f (n := 9) (by omega)
  have h2 := pickK_lt p.b (n := 9) (by omega)
  refine penB_iff.2 ⟨?_, ?_, ?_, ?_⟩
  all_goals simp only [penK]
  all_goals omega
set_option maxRecDepth 100000 in
set_option maxHeartbeats 1000000 in
theorem kPen (p : Pn) (w : World) (f0 : -9223372036854775808 ≤ p.f) (f1 : p.f ≤ 9223372036854775807) (b0 : -9223372036854775808 ≤ p.b) (b1 : p.b ≤ 9223372036854775807) :
    Calls Tryz.prog 56 #[p.agg] w fun e w' => e = .returned (penK p).agg ∧ Below w.heap.size w w' := by
  obtain ⟨pf, pb, bo, un, re⟩ := p
  go_enter Tryz.func56, Tryz.ntmps56
  go_wp2_with fail
  go_at_call 16
  refine (kPick pf 9 _ (by omega) (by omega) f0 f1).mono ?_
  rintro e w2 ⟨rfl, hw2⟩
  subst hw2
  go_wp2_with fail
  go_at_call 16
  refine (kPick pb 9 _ (by omega) (by omega) b0 b1).mono ?_
  rintro e w2 ⟨rfl, hw2⟩
  subst hw2
  go_wp2_with fail
  refine bodyPost_ret (v := (penK ⟨pf, pb, bo, un, re⟩).agg) (by simp [results, Tryz.results56, go_sem, penK]) rfl ⟨rfl, ((Below.refl _ _).alloc (Nat.le_refl _) _).alloc (by simp) _⟩
def openL : List Wn := updL [rootW 2 1] 0 (fun u => { u with G := writeAll 2 1 0 Pn.plain 0 (runesG ⟨#[97]⟩ 1 0) (rootW 2 1).G })
def openR : Wn := { rootW 2 1 with G := writeAll 2 1 0 Pn.plain 0 (runesG ⟨#[97]⟩ 1 0) (rootW 2 1).G }
theorem openL_eq : openL = [openR] := rfl
theorem open_pic : picP openL 0 openR 0 0 = ⟨97, 0, Pn.plain⟩ := by kernel_rfl
theorem open_tree : Tree openL (fun _ => 0) 0 := by
  rw [openL_eq]
  exact ⟨⟨openR, [], rfl, rfl, rfl, by simp⟩, by simp, by simp [openR, rootW], by simp⟩
theorem open_ok : DOk openL 0 := ⟨⟨_, _, open_tree⟩, by rw [openL_eq]; simp [openR, rootW], by rw [openL_eq]; simp, by rw [openL_eq]; simp [openR, rootW]⟩
/-- What lay stays: all that a desk has is new. -/
theorem Keep.new {M : Mm} {L : List Wn} {w0 w w' : World} (h : Below w0.heap.size w0 w) (k : Keep (M.own L) w w') (hM : ∀ i, M.own L i → w0.heap.size ≤ i) : Below w0.heap.size w0 w' :=
  h.trans (k.toBelow h.size (fun i hi ho => by have := hM i ho; omega))
set_option maxRecDepth 100000 in
set_option maxHeartbeats 2000000 in
theorem kOpens (w : World) (hw : 2 ≤ w.heap.size) :
    Calls Tryz.prog 44 #[] w fun e w' => e = .returned (.bool true) ∧ Below w.heap.size w w' := by
  go_enter Tryz.func44, Tryz.ntmps44
  go_wp2_with fail
  go_at_call 15
  refine (kNew 2 1 _ (by omega) (by omega) (by omega) (by omega) hw).mono ?_
  rintro e wa ⟨M, rfl, D1, B1, O1⟩
  have HD1 : Hid (DkAt wa M [rootW 2 1] 0 (1 * 2) (newR 2 1) newT) := D1
  have HB1 : Hid (Below w.heap.size w wa) := B1
  have HO1 : Hid (∀ i, M.own [rootW 2 1] i → w.heap.size ≤ i) := O1
  clear D1 B1 O1
  go_wp2_with fail
  go_at_call 31
  refine (kWrite (ok_root 2 1) _ HD1.out (rootW 2 1) (by simp) 0 0 (by decide) ⟨#[97]⟩ (by decide) Pn.plain (by decide)).mono ?_
  rintro e wb ⟨M2, rfl, D2, t2, K2, O2⟩
  have HD2 : Hid (DkAt wb M2 openL 0 (1 * 2) (newR 2 1) newT) := D2
  have HB2 : Hid (Below w.heap.size w wb) := Keep.new HB1.out K2 HO1.out
  rw [← t2]
  clear D2 K2 O2 t2
  go_wp2_with fail
  go_at_call 11
  refine (kCell open_tree open_ok _ HD2.out openR (by rw [openL_eq]; simp) rfl 0 0 (by decide) (by decide)).mono ?_
  rw [show picP openL 0 openR ((0 : Nat) : Int) ((0 : Nat) : Int) = ⟨97, 0, Pn.plain⟩ from open_pic]
  rintro e wc ⟨rfl, bc⟩
  replace HB2 : Hid (Below w.heap.size w wc) := HB2.out.trans (bc.mono HB2.out.size)
  clear bc
  go_wp2_with fail
  go_ret
  exact ⟨rfl, HB2.out.trans (((Below.refl _ _).alloc (Nat.le_refl _) _).mono HB2.out.size)⟩
end Go.Proofs.YtjlfibhbfdckpaaGreatDoor

/- The statements with the program's own screen: act: a step with a desk. -/
namespace Go.Proofs.YtjlfibhbfdckpaaGreatDoor
open Go.RowKit
attribute [local go_sem ↓] Go.wp_at_zero Go.wp_at_succ
/-- A step of the script. -/
structure Ac where
  kd : Int
  a : Int
  b : Int
  c : Int
  d : Int
  e : Int
  s : ByteArray
  p : Pn
  wb : Bool
def Rng (x : Int) : Prop := -9223372036854775808 ≤ x ∧ x ≤ 9223372036854775807
structure Ac.In (o : Ac) : Prop where
  kd : Rng o.kd
  a : Rng o.a
  b : Rng o.b
  c : Rng o.c
  d : Rng o.d
  e : Rng o.e
  f : Rng o.p.f
  g : Rng o.p.b
  sz : o.s.size ≤ 9223372036854775807
abbrev Ac.arr (o : Ac) : Array Value := #[.int .i64 o.kd, .int .i64 o.a, .int .i64 o.b, .int .i64 o.c, .int .i64 o.d, .int .i64 o.e, .string o.s, .int .i64 o.p.f, .int .i64 o.p.b, .bool o.p.bo, .bool o.p.un, .bool o.p.re, .bool o.wb]
abbrev Ac.agg (o : Ac) : Value := .agg o.arr
def shortK (s : ByteArray) : ByteArray := if 40 < s.size then s.extract 0 40 else s
theorem shortK_le (s : ByteArray) : (shortK s).size ≤ 40 := by
  unfold shortK
  split
  · rw [ByteArray.size_extract]; omega
  · omega
set_option maxHeartbeats 1000000 in
theorem kShort (s : ByteArray) (w : World) (hs : s.size ≤ 9223372036854775807) :
    Calls Tryz.prog 55 #[.string s, .int .i64 40] w fun e w' => e = .returned (.string (shortK s)) ∧ w' = w := by
  by_cases h : 40 < s.size
  · have e : shortK s = s.extract 0 40 := if_pos h
    have h' : (40 : Int) < (s.size : Int) := by omega
    rw [e]
    go_enter Tryz.func55, Tryz.ntmps55
    go_wp2_with fail
    go_ret
    exact ⟨rfl, rfl⟩
  · have e : shortK s = s := if_neg h
    have h' : ¬ ((40 : Int) < (s.size : Int)) := by omega
    rw [e]
    go_enter Tryz.func55, Tryz.ntmps55
    go_wp2_with fail
    go_ret
    exact ⟨rfl, rfl⟩
def pkI (c n : Int) : Int := (pickK c n.toNat : Nat)
theorem pkI_in (c : Int) {n : Int} (h : 0 < n) : 0 ≤ pkI c n ∧ pkI c n < n := by
  unfold pkI
  have := pickK_lt c (n := n.toNat) (by omega)
  omega
theorem kPkI (c n : Int) (w : World) (hn : 0 < n) (hn2 : n ≤ 1000) (h : Rng c) :
    Calls Tryz.prog 16 #[.int .i64 c, .int .i64 n] w fun e w' => e = .returned (.int .i64 (pkI c n)) ∧ w' = w := by
  obtain ⟨m, rfl⟩ := Int.eq_ofNat_of_zero_le (show 0 ≤ n by omega)
  exact kPick c m w (by omega) (by omega) h.1 h.2
end Go.Proofs.YtjlfibhbfdckpaaGreatDoor
