/- Texts of the proof, one behind the other: RdB, RdC. -/
import Derived.Test.YtjlfibhbfdckpaaGreatDoorK20
import Derived.Test.YtjlfibhbfdckpaaGreatDoorK24
/- The document's desk: at, child, place, pen. -/

namespace Go.Proofs.YtjlfibhbfdckpaaGreatDoor
open Go.RowKit
attribute [local go_sem ↓] Go.wp_at_zero Go.wp_at_succ
section
variable {w : World} {R : Rm} {L : List Wn} {last : Int}
/-- The list is there. -/
theorem RkAt.sl (h : RkAt w R L last) (h1 : 1 ≤ L.length) : ∃ g cap, R.l = .slice (some ⟨g, 0, none⟩) L.length cap ∧ (∀ i v, L[i]? = some v → RwAt w g (i * 6) (R.c v.n) v) ∧ (∀ o, w.frozen? ⟨g, o, none⟩ = false) ∧ L.length ≤ cap := by
  obtain ⟨g, cap, e⟩ := row_slice h.row h1
  have hr := h.row
  rw [e] at hr
  refine ⟨g, cap, e, fun i v hi => rrow_at hr i v hi, fun o => ?_, ?_⟩
  · obtain ⟨_, h | ⟨g', cap', cur, hv, hb, hg, hn, hm, hs, ht⟩⟩ := hr
    · simp at h
    · obtain ⟨rfl, _⟩ : g = g' ∧ cap = cap' := by simpa using hv
      exact frozen_of_block hg o
  · obtain ⟨_, h | ⟨g', cap', cur, hv, hb, hg, hn, hm, hs, ht⟩⟩ := hr
    · simp at h
    · obtain ⟨_, rfl⟩ : g = g' ∧ cap = cap' := by simpa using hv
      exact hn
set_option maxHeartbeats 1000000 in
theorem rdAt (h : RkAt w R L last) (h1 : 1 ≤ L.length) (hl16 : L.length ≤ 16) (n : Int) (j : Nat) (hj : j ≤ L.length) (hne : ∀ i v, i < j → L[i]? = some v → v.n ≠ n) (hat : ∀ v, L[j]? = some v → v.n = n) :
    Calls Tryz.prog 79 #[.pointer (some ⟨R.d, 0, none⟩), .int .i64 n] w fun e w' => e = .returned (.int .i64 (if j < L.length then (j : Int) else -1)) ∧ w' = w := by
  have d0 := h.d0
  obtain ⟨g, cap, hl, hw, _, _⟩ := h.sl h1
  rw [hl] at d0
  have Hw : Hid (∀ i v, L[i]? = some v → RwAt w g (i * 6) (R.c v.n) v) := hw
  have Hne : Hid (∀ i v, i < j → L[i]? = some v → v.n ≠ n) := hne
  have Hat : Hid (∀ v, L[j]? = some v → v.n = n) := hat
  clear h hw hne hat hl
  go_enter Tryz.func79, Tryz.ntmps79
  go_wp2_with fail
  go_loopw [5] (fun i w' => ∃ k : Nat, k ≤ j ∧ i = .int .i64 k ∧ w' = w) (fun i _ => 20 - (intOf i).toNat)
  case atStart => exact ⟨0, by omega, rfl, rfl⟩
  case round =>
    obtain ⟨k, hk, rfl, rfl⟩ := hrel
    by_cases hlt : k < L.length
    · have hlt' : (k : Int) < (L.length : Int) := by omega
      obtain ⟨v, hv⟩ : ∃ v, L[k]? = some v := ⟨_, List.getElem?_eq_getElem hlt⟩
      obtain ⟨c0, _, _, _, _, _⟩ := Hw.out k v hv
      by_cases he : k = j
      · subst he
        have hvn := Hat.out v hv
        go_wp2_with fail
        go_ret
        exact ⟨rfl, rfl⟩
      · have hvn := Hne.out k v (by omega) hv
        clear hv
        go_wp2_with fail
        go_roundw
        case rel => exact ⟨k + 1, by omega, by simp, trivial⟩
        case measure => simp [intOf]; omega
    · have hlt' : ¬ (k : Int) < (L.length : Int) := by omega
      go_wp2_with fail
      go_ret
      simp
end
section
variable {R : Rm} {L : List Wn} {last : Int}
/-- Where a window stands in the list. -/
theorem at_of (ok : DOk L last) (n : Int) : (∃ v ∈ L, v.n = n ∧ ∃ j, j < L.length ∧ L[j]? = some v ∧ (∀ i u, i < j → L[i]? = some u → u.n ≠ n) ∧ filtN L n = L.eraseIdx j ∧ (j = 0 ↔ n = 0)) ∨ hasN L n = false := by
  obtain ⟨rk, K, T⟩ := ok.tree
  by_cases h : hasN L n = true
  · left
    obtain ⟨v, hv, rfl⟩ := hasN_iff.1 h
    obtain ⟨j, h1, h2, h3⟩ := idx_of T.nd hv
    refine ⟨v, hv, rfl, j, (List.getElem?_eq_some_iff.1 h1).1, h1, h2, h3, ?_⟩
    obtain ⟨r, T', e, e1, e2, e3⟩ := T.head
    constructor
    · rintro rfl
      rw [e] at h1
      obtain rfl : r = v := by simpa using h1
      exact e1
    · intro h0
      by_cases hj : j = 0
      · exact hj
      · exact absurd (e1.trans h0.symm) (h2 0 r (by omega) (by rw [e]; rfl))
  · right; simpa using h
theorem DOk.one (ok : DOk L last) : 1 ≤ L.length := by
  obtain ⟨rk, K, T⟩ := ok.tree
  obtain ⟨r, hr, _⟩ := T.rootIn
  exact List.length_pos_of_mem hr
theorem rdAtIn (ok : DOk L last) (w : World) (h : RkAt w R L last) (v : Wn) (j : Nat) (hj : L[j]? = some v) (hne : ∀ i u, i < j → L[i]? = some u → u.n ≠ v.n) :
    Calls Tryz.prog 79 #[.pointer (some ⟨R.d, 0, none⟩), .int .i64 v.n] w fun e w' => e = .returned (.int .i64 j) ∧ w' = w := by
  have hl : j < L.length := (List.getElem?_eq_some_iff.1 hj).1
  have := rdAt h ok.one ok.len v.n j (by omega) hne (fun u hu => by rw [hj] at hu; injection hu with e; rw [e])
  rw [if_pos hl] at this
  exact this
theorem rdAtNo (ok : DOk L last) (w : World) (h : RkAt w R L last) (n : Int) (hn : hasN L n = false) :
    Calls Tryz.prog 79 #[.pointer (some ⟨R.d, 0, none⟩), .int .i64 n] w fun e w' => e = .returned (.int .i64 (-1)) ∧ w' = w := by
  have hno : ∀ u ∈ L, u.n ≠ n := fun u hu e => by have := hasN_iff.2 ⟨u, hu, e⟩; rw [hn] at this; simp at this
  have := rdAt h ok.one ok.len n L.length (Nat.le_refl _) (fun i u _ hu => hno u (List.mem_of_getElem? hu)) (fun u hu => by simp at hu)
  rw [if_neg (by omega)] at this
  exact this
theorem rdAtNil (w : World) (n : Int) :
    Calls Tryz.prog 79 #[.pointer none, .int .i64 n] w fun e w' => e = .returned (.int .i64 (-1)) ∧ w' = w := by
  go_enter Tryz.func79, Tryz.ntmps79
  go_wp2_with fail
  go_ret
  exact ⟨rfl, rfl⟩
theorem rdChild (ok : DOk L last) (w : World) (h : RkAt w R L last) (v : Wn) (j : Nat) (hj : L[j]? = some v) (hne : ∀ i u, i < j → L[i]? = some u → u.n ≠ v.n) (hj0 : j ≠ 0) :
    Calls Tryz.prog 143 #[.pointer (some ⟨R.d, 0, none⟩), .int .i64 v.n] w fun e w' => e = .returned (.tuple #[.int .i64 j, .int .i64 0]) ∧ w' = w := by
  have H : Hid (Calls Tryz.prog 79 #[.pointer (some ⟨R.d, 0, none⟩), .int .i64 v.n] w fun e w' => e = .returned (.int .i64 j) ∧ w' = w) := rdAtIn ok w h v j hj hne
  have h1 : ¬ (j : Int) < 0 := by omega
  have h2 : ¬ (j : Int) = 0 := by omega
  clear h hj hne
  go_enter Tryz.func143, Tryz.ntmps143
  go_wp2_with (first | (go_at_call 79; refine (H.out).mono ?_; rintro e w' ⟨rfl, hw'⟩; replace hw' := hw'.symm; subst hw'))
  go_ret2
  exact ⟨rfl, rfl⟩
theorem rdChildNo (ok : DOk L last) (w : World) (h : RkAt w R L last) (n : Int) (he : childE L n ≠ 0) :
    Calls Tryz.prog 143 #[.pointer (some ⟨R.d, 0, none⟩), .int .i64 n] w fun e w' => e = .returned (.tuple #[.int .i64 (-1), .int .i64 (childE L n)]) ∧ w' = w := by
  unfold childE at he ⊢
  rcases at_of ok n with ⟨v, hv, rfl, j, hjl, hj, hne, _, h0⟩ | hn
  · have hh : hasN L v.n = true := hasN_iff.2 ⟨v, hv, rfl⟩
    rw [if_neg (by simp [hh])] at he ⊢
    by_cases e0 : v.n = 0
    · rw [if_pos e0]
      obtain rfl := h0.2 e0
      have H : Hid (Calls Tryz.prog 79 #[.pointer (some ⟨R.d, 0, none⟩), .int .i64 v.n] w fun e w' => e = .returned (.int .i64 0) ∧ w' = w) := rdAtIn ok w h v 0 hj hne
      clear h hj hne he h0 e0
      go_enter Tryz.func143, Tryz.ntmps143
      go_wp2_with (first | (go_at_call 79; refine (H.out).mono ?_; rintro e w' ⟨rfl, hw'⟩; replace hw' := hw'.symm; subst hw'))
      go_ret2
      exact ⟨rfl, rfl⟩
    · rw [if_neg e0] at he; omega
  · rw [if_pos hn]
    have H : Hid (Calls Tryz.prog 79 #[.pointer (some ⟨R.d, 0, none⟩), .int .i64 n] w fun e w' => e = .returned (.int .i64 (-1)) ∧ w' = w) := rdAtNo ok w h n hn
    clear h he
    go_enter Tryz.func143, Tryz.ntmps143
    go_wp2_with (first | (go_at_call 79; refine (H.out).mono ?_; rintro e w' ⟨rfl, hw'⟩; replace hw' := hw'.symm; subst hw'))
    go_ret2
    exact ⟨rfl, rfl⟩
theorem rdChildNil (w : World) (n : Int) :
    Calls Tryz.prog 143 #[.pointer none, .int .i64 n] w fun e w' => e = .returned (.tuple #[.int .i64 (-1), .int .i64 1]) ∧ w' = w := by
  go_enter Tryz.func143, Tryz.ntmps143
  go_wp2_with (first | (go_at_call 79; refine (rdAtNil _ _).mono ?_; rintro e w' ⟨rfl, hw'⟩; replace hw' := hw'.symm; subst hw'))
  go_ret2
  exact ⟨rfl, rfl⟩
theorem rdPlace (x y : Int) (w : World) :
    Calls Tryz.prog 80 #[.int .i64 x, .int .i64 y] w fun e w' => e = .returned (.bool (placeB x y)) ∧ w' = w := by
  cases h1 : Wd.inB x (-1000) 1000 <;> cases h2 : Wd.inB y (-1000) 1000
  all_goals
    go_enter Tryz.func80, Tryz.ntmps80
    go_wp2_with (first | (go_at_call 86; refine (Wd.refBetween _ _ _ _).mono ?_; rintro e w' ⟨rfl, hw'⟩; replace hw' := hw'.symm; subst hw'))
    go_ret
    exact ⟨by simp [placeB, h1, h2], rfl⟩
theorem rdPen (p : Pn) (w : World) :
    Calls Tryz.prog 81 #[p.agg] w fun e w' => e = .returned (.bool (penB p)) ∧ Below w.heap.size w w' := by
  cases h1 : Wd.inB p.f 0 8 <;> cases h2 : Wd.inB p.b 0 8
  all_goals
    go_enter Tryz.func81, Tryz.ntmps81
    go_wp2_with (first | (go_at_call 86; refine (Wd.refBetween _ _ _ _).mono ?_; rintro e w' ⟨rfl, hw'⟩; replace hw' := hw'.symm; subst hw'))
    go_ret
    exact ⟨by simp [penB, h1, h2], (Below.refl _ _).alloc (Nat.le_refl _) _⟩
end
end Go.Proofs.YtjlfibhbfdckpaaGreatDoor

/- The document's desk: Show, Move. -/
namespace Go.Proofs.YtjlfibhbfdckpaaGreatDoor
open Go.RowKit
attribute [local go_sem ↓] Go.wp_at_zero Go.wp_at_succ
theorem row_set {w : World} {base : Nat} {e : TypeId} {size g n cap : Nat} {xs : List Value} (h : w.ownsRow base e size (.slice (some ⟨g, 0, none⟩) n cap) n xs) (k : Nat) (u : Value) : (w.setCell ⟨g, k, none⟩ u).ownsRow base e size (.slice (some ⟨g, 0, none⟩) n cap) n (xs.set k u) := by
  obtain ⟨hl, h | ⟨g', cap', cur, hv, hb, hg, hn, hm, hs, ht⟩⟩ := h
  · simp at h
  · obtain ⟨rfl, rfl⟩ : g = g' ∧ cap = cap' := by simpa using hv
    refine ⟨by simpa using hl, .inr ⟨g, cap, _, rfl, hb, set_block hg u, hn, hm, by simpa using hs, ?_⟩⟩
    rw [Array.toList_setIfInBounds, List.take_set, ht]
theorem rFlat_set (c : Int → Nat) : ∀ (L : List Wn) (j k : Nat) (v v' : Wn) (u : Value), L[j]? = some v → k < 6 → rVals c v' = (rVals c v).set k u → (rFlat c L).set (j * 6 + k) u = rFlat c (L.set j v') := by
  intro L
  induction L with
  | nil => intro j k v v' u h; simp at h
  | cons a L ih =>
    intro j k v v' u h hk hv
    have e : ∀ (a : Wn) L, rFlat c (a :: L) = rVals c a ++ rFlat c L := fun a L => by simp [rFlat]
    have hl : (rVals c a).length = 6 := rfl
    cases j with
    | zero =>
      obtain rfl : a = v := by simpa using h
      rw [List.set_cons_zero, e, e, Nat.zero_mul, Nat.zero_add, List.set_append_left _ _ (by omega), hv]
    | succ j =>
      rw [List.set_cons_succ, e, e, List.set_append_right _ _ (by omega), hl, show (j + 1) * 6 + k - 6 = j * 6 + k by omega, ih j k v v' u (by simpa using h) hk hv]
theorem updL_set {L : List Wn} (nd : (L.map Wn.n).Nodup) {v : Wn} {j : Nat} (hj : L[j]? = some v) (f : Wn → Wn) : updL L v.n f = L.set j (f v) := by
  unfold updL
  apply List.ext_getElem?
  intro i
  rw [List.getElem?_map, List.getElem?_set]
  by_cases e : j = i
  · subst e
    have hl := (List.getElem?_eq_some_iff.1 hj).1
    rw [hj]; simp [hl]
  · rw [if_neg e]
    cases hi : L[i]? with
    | none => rfl
    | some u =>
      have hne : u.n ≠ v.n := fun hn => by
        have h1 := (List.getElem?_eq_some_iff.1 hi).1
        have h2 := (List.getElem?_eq_some_iff.1 hj).1
        have := List.getElem_inj (i := j) (j := i) (h₀ := by simpa using h2) (h₁ := by simpa using h1) nd
        exact e (this.1 (by rw [List.getElem_map, List.getElem_map, (List.getElem?_eq_some_iff.1 hi).2, (List.getElem?_eq_some_iff.1 hj).2, hn]))
      simp [hne]
section
variable {R : Rm} {L : List Wn} {last : Int}
theorem RkPost.stay {w w' : World} {r : Value} (h : RkAt w R L last) (hb : Below w.heap.size w w') : RkPost R L L last w r (.returned r) w' :=
  ⟨R, rfl, h.below hb, rfl, Keep.below _ hb, fun _ hi => .inl hi⟩
theorem okR_upd {f : Wn → Wn} {n : Int} (hnn : ∀ u ∈ L, u.n = n → (f u).n = n) (p : Pl) : p.okR (updL L n f) ↔ p.okR L := by
  cases p with
  | top k => exact Iff.rfl
  | win m k =>
    have e := updL_nums hnn
    have h1 : (∃ u ∈ updL L n f, u.n = m) ↔ m ∈ (updL L n f).map Wn.n := by simp
    have h2 : (∃ u ∈ L, u.n = m) ↔ m ∈ L.map Wn.n := by simp
    show _ ∧ _ ↔ _ ∧ _
    rw [h1, h2, e]
/-- Only the row has changed: a window stands otherwise. -/
theorem RkAt.setRow {w w' : World} (h : RkAt w R L last) (ok : DOk L last) {v : Wn} {j g cap : Nat} (hj : L[j]? = some v) (hl : R.l = .slice (some ⟨g, 0, none⟩) L.length cap) (f : Wn → Wn) (hfn : ∀ u, (f u).n = u.n) (hfG : ∀ u, (f u).W = u.W ∧ (f u).H = u.H ∧ (f u).G = u.G)
    (hr : w'.ownsRow 2 107 6 (.slice (some ⟨g, 0, none⟩) L.length cap) L.length (rFlat R.c (L.set j (f v)))) (hk : Keep (fun i => i = g) w w') (r : Value) : RkPost R L (updL L v.n f) last w r (.returned r) w' := by
  obtain ⟨rk, K, T⟩ := ok.tree
  have hv : v ∈ L := List.mem_of_getElem? hj
  have hg : R.l.ownBlock = some g := by rw [hl]; rfl
  have hok := okR_upd (L := L) (n := v.n) (f := f) (fun u _ e => by rw [hfn]; exact e)
  have kp : ∀ (p : Pl) (i : Nat), p.okR L → R.blk p = some i → p ≠ .top 1 → w'.heap[i]? = w.heap[i]? := fun p i hp e n1 => hk.block i (h.lt ⟨p, hp, e⟩) (fun e' => h.ne (p := p) (q := .top 1) hp (show 1 < 2 by omega) e hg n1 e')
  have hown : ∀ i, R.own (updL L v.n f) i → R.own L i := fun i ⟨p, a, b⟩ => ⟨p, (hok p).1 a, b⟩
  have hmem : ∀ u ∈ updL L v.n f, ∃ u0 ∈ L, u.n = u0.n ∧ u.W = u0.W ∧ u.H = u0.H ∧ u.G = u0.G := fun u hu => by
    obtain ⟨u0, h0, e⟩ := List.mem_map.1 hu
    refine ⟨u0, h0, ?_⟩
    split at e
    · subst e; exact ⟨hfn u0, hfG u0⟩
    · subst e; exact ⟨rfl, rfl, rfl, rfl⟩
  refine ⟨R, rfl, ⟨(kp (.top 0) _ (show 0 < 2 by omega) rfl (by simp)).trans h.blk, ?_, ?_, ?_, fun p q i hp hq => h.inj p q i ((hok p).1 hp) ((hok q).1 hq), fun i hi => h.two i (hown i hi)⟩, rfl, hk.mono (fun i e => e ▸ rown_l R L hg), fun i hi => .inl (hown i hi)⟩
  · rw [updL_set T.nd hj, hl, List.length_set]; exact hr
  · intro u hu
    obtain ⟨u0, h0, e1, e2, e3, e4⟩ := hmem u hu
    rw [e1, e2, e3, e4]
    exact (h.win u0 h0).same (kp (.win u0.n 0) _ ⟨by omega, u0, h0, rfl⟩ rfl (by simp)) (kp (.win u0.n 1) _ ⟨by omega, u0, h0, rfl⟩ rfl (by simp))
  · intro u hu
    obtain ⟨u0, h0, e1, e2, e3, e4⟩ := hmem u hu
    rw [e2, e3, e4]
    exact h.wf u0 h0
set_option maxHeartbeats 1000000 in
theorem rdShow (ok : DOk L last) (w : World) (h : RkAt w R L last) (v : Wn) (j : Nat) (hj : L[j]? = some v) (hne : ∀ i u, i < j → L[i]? = some u → u.n ≠ v.n) (hj0 : j ≠ 0) (b : Bool) :
    Calls Tryz.prog 101 #[.pointer (some ⟨R.d, 0, none⟩), .int .i64 v.n, .bool b] w (RkPost R L (updL L v.n (fun u => { u with sh := b })) last w (.int .i64 0)) := by
  have HR : Hid (RkAt w R L last) := h
  have H : Hid (Calls Tryz.prog 143 #[.pointer (some ⟨R.d, 0, none⟩), .int .i64 v.n] w fun e w' => e = .returned (.tuple #[.int .i64 j, .int .i64 0]) ∧ w' = w) := rdChild ok w h v j hj hne hj0
  have d0 := h.d0
  obtain ⟨g, cap, hl, hw, hfz, _⟩ := h.sl ok.one
  rw [hl] at d0
  have hr := h.row
  rw [hl] at hr
  obtain ⟨c0, c1, c2, c3, c4, c5⟩ := hw j v hj
  have hjl : j < L.length := (List.getElem?_eq_some_iff.1 hj).1
  have hjl' : (j : Int) < (L.length : Int) := by omega
  have hz : Hid (L.length ≤ 16) := ok.len
  have HP : Hid (RkPost R L (updL L v.n (fun u => { u with sh := b })) last w (.int .i64 0) (.returned (.int .i64 0)) (w.setCell ⟨g, j * 6 + 4, none⟩ (.bool b))) :=
    h.setRow ok hj hl (fun u => { u with sh := b }) (fun _ => rfl) (fun _ => ⟨rfl, rfl, rfl⟩) (by rw [← rFlat_set R.c L j 4 v _ (.bool b) hj (by omega) rfl]; exact row_set hr _ _) ((Keep.refl _ _).setCell _ _ (fun _ => rfl)) _
  clear h hr hw hj hne hl
  go_enter Tryz.func101, Tryz.ntmps101
  go_wp2_with (first | (go_at_call 143; refine (H.out).mono ?_; rintro e w' ⟨rfl, hw'⟩; replace hw' := hw'.symm; subst hw'))
  go_ret
  exact HP.out
set_option maxHeartbeats 1000000 in
theorem rdMove (ok : DOk L last) (w : World) (h : RkAt w R L last) (v : Wn) (j : Nat) (hj : L[j]? = some v) (hne : ∀ i u, i < j → L[i]? = some u → u.n ≠ v.n) (hj0 : j ≠ 0) (x y : Int) (hp : placeB x y = true) :
    Calls Tryz.prog 98 #[.pointer (some ⟨R.d, 0, none⟩), .int .i64 v.n, .int .i64 x, .int .i64 y] w (RkPost R L (updL L v.n (fun u => { u with x := x, y := y })) last w (.int .i64 0)) := by
  have HR : Hid (RkAt w R L last) := h
  have H : Hid (Calls Tryz.prog 143 #[.pointer (some ⟨R.d, 0, none⟩), .int .i64 v.n] w fun e w' => e = .returned (.tuple #[.int .i64 j, .int .i64 0]) ∧ w' = w) := rdChild ok w h v j hj hne hj0
  have d0 := h.d0
  obtain ⟨g, cap, hl, hw, hfz, _⟩ := h.sl ok.one
  rw [hl] at d0
  have hr := h.row
  rw [hl] at hr
  obtain ⟨c0, c1, c2, c3, c4, c5⟩ := hw j v hj
  have hjl : j < L.length := (List.getElem?_eq_some_iff.1 hj).1
  have hjl' : (j : Int) < (L.length : Int) := by omega
  have hz : Hid (L.length ≤ 16) := ok.len
  have hgd : g ≠ R.d := h.ne (p := .top 1) (q := .top 0) (show 1 < 2 by omega) (show 0 < 2 by omega) (by show R.l.ownBlock = _; rw [hl]; rfl) rfl (by simp)
  have HP : Hid (RkPost R L (updL L v.n (fun u => { u with x := x, y := y })) last w (.int .i64 0) (.returned (.int .i64 0)) ((w.setCell ⟨g, j * 6 + 2, none⟩ (.int .i64 x)).setCell ⟨g, j * 6 + 3, none⟩ (.int .i64 y))) := by
    refine h.setRow ok hj hl (fun u => { u with x := x, y := y }) (fun _ => rfl) (fun _ => ⟨rfl, rfl, rfl⟩) ?_ (((Keep.refl (fun i => i = g) w).setCell ⟨g, j * 6 + 2, none⟩ _ (fun _ => rfl)).setCell ⟨g, j * 6 + 3, none⟩ _ (fun _ => rfl)) _
    have e1 := rFlat_set R.c L j 2 v { v with x := x } (.int .i64 x) hj (by omega) rfl
    have e2 := rFlat_set R.c (L.set j { v with x := x }) j 3 { v with x := x } { v with x := x, y := y } (.int .i64 y) (by rw [List.getElem?_set_self hjl]) (by omega) rfl
    rw [List.set_set] at e2
    rw [← e2, ← e1]
    exact row_set (row_set hr _ _) _ _
  clear h hr hw hj hne hl
  go_enter Tryz.func98, Tryz.ntmps98
  go_wp2_with (first | (go_at_call 143; refine (H.out).mono ?_; rintro e w' ⟨rfl, hw'⟩; replace hw' := hw'.symm; subst hw') | (go_at_call 80; refine (rdPlace _ _ _).mono ?_; rintro e w' ⟨rfl, hw'⟩; replace hw' := hw'.symm; subst hw'))
  go_ret
  exact HP.out
end
end Go.Proofs.YtjlfibhbfdckpaaGreatDoor
