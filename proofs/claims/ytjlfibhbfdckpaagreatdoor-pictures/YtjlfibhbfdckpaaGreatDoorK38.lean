/- Texts of the proof, one behind the other: RdC, RdD. -/
import Derived.Test.YtjlfibhbfdckpaaGreatDoorK27
import Derived.Test.YtjlfibhbfdckpaaGreatDoorK32
import Derived.Test.YtjlfibhbfdckpaaGreatDoorK35
import Derived.Test.YtjlfibhbfdckpaaGreatDoorK37
/- The document's desk: Show, Move. -/
namespace Go.Proofs.YtjlfibhbfdckpaaGreatDoor
open Go.RowKit
attribute [local go_sem ↓] Go.wp_at_zero Go.wp_at_succ
theorem row_set {w : World} {base : Nat} {e : TypeId} {size g n cap : Nat} {xs : List Value} (h : w.ownsRow base e size (.slice (some ⟨g, 0, none⟩) n cap) n xs) (k : Nat) (u : Value) : (w.setCell ⟨g, k, none⟩ u).ownsRow base e size (.slice (some ⟨g, 0, none⟩) n cap) n (xs.set k u) := by
  obtain ⟨hl, h | ⟨g', cap', cur, hv, hb, hg, hn, hm, hs, ht⟩⟩ := h
  · simp at h
  · obtain ⟨rfl, rfl⟩ : g = g' ∧ cap = cap' := by simpa using hv
    refine ⟨by simpa using hl, .inr ⟨g, cap, _, rfl, hb, set_block hg u, hn, hm, by simpa using hs, ?_⟩⟩
    rw [Array.toList_setIfInBounds, List.take_set, ht]
theorem rFlat_set (c : Int → Nat) : ∀ (L : List Wn) (j k : Nat) (v v' : Wn) (u : Value), L[j]? = some v → k < 6 → rVals c v' = (rVals c v).set k u → (rFlat c L).set (j * 6 + k) u = rFlat c (L.set j v') := by
  intro L
  induction L with
  | nil => intro j k v v' u h; simp at h
  | cons a L ih =>
    intro j k v v' u h hk hv
    have e : ∀ (a : Wn) L, rFlat c (a :: L) = rVals c a ++ rFlat c L := fun a L => by simp [rFlat]
    have hl : (rVals c a).length = 6 := rfl
    cases j with
    | zero =>
      obtain rfl : a = v := by simpa using h
      rw [List.set_cons_zero, e, e, Nat.zero_mul, Nat.zero_add, List.set_append_left _ _ (by omega), hv]
    | succ j =>
      rw [List.set_cons_succ, e, e, List.set_append_right _ _ (by omega), hl, show (j + 1) * 6 + k - 6 = j * 6 + k by omega, ih j k v v' u (by simpa using h) hk hv]
theorem updL_set {L : List Wn} (nd : (L.map Wn.n).Nodup) {v : Wn} {j : Nat} (hj : L[j]? = some v) (f : Wn → Wn) : updL L v.n f = L.set j (f v) := by
  unfold updL
  apply List.ext_getElem?
  intro i
  rw [List.getElem?_map, List.getElem?_set]
  by_cases e : j = i
  · subst e
    have hl := (List.getElem?_eq_some_iff.1 hj).1
    rw [hj]; simp [hl]
  · rw [if_neg e]
    cases hi : L[i]? with
    | none => rfl
    | some u =>
      have hne : u.n ≠ v.n := fun hn => by
        have h1 := (List.getElem?_eq_some_iff.1 hi).1
        have h2 := (List.getElem?_eq_some_iff.1 hj).1
        have := List.getElem_inj (i := j) (j := i) (h₀ := by simpa using h2) (h₁ := by simpa using h1) nd
        exact e (this.1 (by rw [List.getElem_map, List.getElem_map, (List.getElem?_eq_some_iff.1 hi).2, (List.getElem?_eq_some_iff.1 hj).2, hn]))
      simp [hne]
section
variable {R : Rm} {L : List Wn} {last : Int}
theorem RkPost.stay {w w' : World} {r : Value} (h : RkAt w R L last) (hb : Below w.heap.size w w') : RkPost R L L last w r (.returned r) w' :=
  ⟨R, rfl, h.below hb, rfl, Keep.below _ hb, fun _ hi => .inl hi⟩
theorem okR_upd {f : Wn → Wn} {n : Int} (hnn : ∀ u ∈ L, u.n = n → (f u).n = n) (p : Pl) : p.okR (updL L n f) ↔ p.okR L := by
  cases p with
  | top k => exact Iff.rfl
  | win m k =>
    have e := updL_nums hnn
    have h1 : (∃ u ∈ updL L n f, u.n = m) ↔ m ∈ (updL L n f).map Wn.n := by simp
    have h2 : (∃ u ∈ L, u.n = m) ↔ m ∈ L.map Wn.n := by simp
    show _ ∧ _ ↔ _ ∧ _
    rw [h1, h2, e]
/-- Only the row has changed: a window stands otherwise. -/
theorem RkAt.setRow {w w' : World} (h : RkAt w R L last) (ok : DOk L last) {v : Wn} {j g cap : Nat} (hj : L[j]? = some v) (hl : R.l = .slice (some ⟨g, 0, none⟩) L.length cap) (f : Wn → Wn) (hfn : ∀ u, (f u).n = u.n) (hfG : ∀ u, (f u).W = u.W ∧ (f u).H = u.H ∧ (f u).G = u.G)
    (hr : w'.ownsRow 2 107 6 (.slice (some ⟨g, 0, none⟩) L.length cap) L.length (rFlat R.c (L.set j (f v)))) (hk : Keep (fun i => i = g) w w') (r : Value) : RkPost R L (updL L v.n f) last w r (.returned r) w' := by
  obtain ⟨rk, K, T⟩ := ok.tree
  have hv : v ∈ L := List.mem_of_getElem? hj
  have hg : R.l.ownBlock = some g := by rw [hl]; rfl
  have hok := okR_upd (L := L) (n := v.n) (f := f) (fun u _ e => by rw [hfn]; exact e)
  have kp : ∀ (p : Pl) (i : Nat), p.okR L → R.blk p = some i → p ≠ .top 1 → w'.heap[i]? = w.heap[i]? := fun p i hp e n1 => hk.block i (h.lt ⟨p, hp, e⟩) (fun e' => h.ne (p := p) (q := .top 1) hp (show 1 < 2 by omega) e hg n1 e')
  have hown : ∀ i, R.own (updL L v.n f) i → R.own L i := fun i ⟨p, a, b⟩ => ⟨p, (hok p).1 a, b⟩
  have hmem : ∀ u ∈ updL L v.n f, ∃ u0 ∈ L, u.n = u0.n ∧ u.W = u0.W ∧ u.H = u0.H ∧ u.G = u0.G := fun u hu => by
    obtain ⟨u0, h0, e⟩ := List.mem_map.1 hu
    refine ⟨u0, h0, ?_⟩
    split at e
    · subst e; exact ⟨hfn u0, hfG u0⟩
    · subst e; exact ⟨rfl, rfl, rfl, rfl⟩
  refine ⟨R, rfl, ⟨(kp (.top 0) _ (show 0 < 2 by omega) rfl (by simp)).trans h.blk, ?_, ?_, ?_, fun p q i hp hq => h.inj p q i ((hok p).1 hp) ((hok q).1 hq), fun i hi => h.two i (hown i hi)⟩, rfl, hk.mono (fun i e => e ▸ rown_l R L hg), fun i hi => .inl (hown i hi)⟩
  · rw [updL_set T.nd hj, hl, List.length_set]; exact hr
  · intro u hu
    obtain ⟨u0, h0, e1, e2, e3, e4⟩ := hmem u hu
    rw [e1, e2, e3, e4]
    exact (h.win u0 h0).same (kp (.win u0.n 0) _ ⟨by omega, u0, h0, rfl⟩ rfl (by simp)) (kp (.win u0.n 1) _ ⟨by omega, u0, h0, rfl⟩ rfl (by simp))
  · intro u hu
    obtain ⟨u0, h0, e1, e2, e3, e4⟩ := hmem u hu
    rw [e2, e3, e4]
    exact h.wf u0 h0
set_option maxHeartbeats 1000000 in
theorem rdShow (ok : DOk L last) (w : World) (h : RkAt w R L last) (v : Wn) (j : Nat) (hj : L[j]? = some v) (hne : ∀ i u, i < j → L[i]? = some u → u.n ≠ v.n) (hj0 : j ≠ 0) (b : Bool) :
    Calls Tryz.prog 101 #[.pointer (some ⟨R.d, 0, none⟩), .int .i64 v.n, .bool b] w (RkPost R L (updL L v.n (fun u => { u with sh := b })) last w (.int .i64 0)) := by
  have HR : Hid (RkAt w R L last) := h
  have H : Hid (Calls Tryz.prog 143 #[.pointer (some ⟨R.d, 0, none⟩), .int .i64 v.n] w fun e w' => e = .returned (.tuple #[.int .i64 j, .int .i64 0]) ∧ w' = w) := rdChild ok w h v j hj hne hj0
  have d0 := h.d0
  obtain ⟨g, cap, hl, hw, hfz, _⟩ := h.sl ok.one
  rw [hl] at d0
  have hr := h.row
  rw [hl] at hr
  obtain ⟨c0, c1, c2, c3, c4, c5⟩ := hw j v hj
  have hjl : j < L.length := (List.getElem?_eq_some_iff.1 hj).1
  have hjl' : (j : Int) < (L.length : Int) := by omega
  have hz : Hid (L.length ≤ 16) := ok.len
  have HP : Hid (RkPost R L (updL L v.n (fun u => { u with sh := b })) last w (.int .i64 0) (.returned (.int .i64 0)) (w.setCell ⟨g, j * 6 + 4, none⟩ (.bool b))) :=
    h.setRow ok hj hl (fun u => { u with sh := b }) (fun _ => rfl) (fun _ => ⟨rfl, rfl, rfl⟩) (by rw [← rFlat_set R.c L j 4 v _ (.bool b) hj (by omega) rfl]; exact row_set hr _ _) ((Keep.refl _ _).setCell _ _ (fun _ => rfl)) _
  clear h hr hw hj hne hl
  go_enter Tryz.func101, Tryz.ntmps101
  go_wp2_with (first | (go_at_call 143; refine (H.out).mono ?_; rintro e w' ⟨rfl, hw'⟩; replace hw' := hw'.symm; subst hw'))
  go_ret
  exact HP.out
set_option maxHeartbeats 1000000 in
theorem rdMove (ok : DOk L last) (w : World) (h : RkAt w R L last) (v : Wn) (j : Nat) (hj : L[j]? = some v) (hne : ∀ i u, i < j → L[i]? = some u → u.n ≠ v.n) (hj0 : j ≠ 0) (x y : Int) (hp : placeB x y = true) :
    Calls Tryz.prog 98 #[.pointer (some ⟨R.d, 0, none⟩), .int .i64 v.n, .int .i64 x, .int .i64 y] w (RkPost R L (updL L v.n (fun u => { u with x := x, y := y })) last w (.int .i64 0)) := by
  have HR : Hid (RkAt w R L last) := h
  have H : Hid (Calls Tryz.prog 143 #[.pointer (some ⟨R.d, 0, none⟩), .int .i64 v.n] w fun e w' => e = .returned (.tuple #[.int .i64 j, .int .i64 0]) ∧ w' = w) := rdChild ok w h v j hj hne hj0
  have d0 := h.d0
  obtain ⟨g, cap, hl, hw, hfz, _⟩ := h.sl ok.one
  rw [hl] at d0
  have hr := h.row
  rw [hl] at hr
  obtain ⟨c0, c1, c2, c3, c4, c5⟩ := hw j v hj
  have hjl : j < L.length := (List.getElem?_eq_some_iff.1 hj).1
  have hjl' : (j : Int) < (L.length : Int) := by omega
  have hz : Hid (L.length ≤ 16) := ok.len
  have hgd : g ≠ R.d := h.ne (p := .top 1) (q := .top 0) (show 1 < 2 by omega) (show 0 < 2 by omega) (by show R.l.ownBlock = _; rw [hl]; rfl) rfl (by simp)
  have HP : Hid (RkPost R L (updL L v.n (fun u => { u with x := x, y := y })) last w (.int .i64 0) (.returned (.int .i64 0)) ((w.setCell ⟨g, j * 6 + 2, none⟩ (.int .i64 x)).setCell ⟨g, j * 6 + 3, none⟩ (.int .i64 y))) := by
    refine h.setRow ok hj hl (fun u => { u with x := x, y := y }) (fun _ => rfl) (fun _ => ⟨rfl, rfl, rfl⟩) ?_ (((Keep.refl (fun i => i = g) w).setCell ⟨g, j * 6 + 2, none⟩ _ (fun _ => rfl)).setCell ⟨g, j * 6 + 3, none⟩ _ (fun _ => rfl)) _
    have e1 := rFlat_set R.c L j 2 v { v with x := x } (.int .i64 x) hj (by omega) rfl
    have e2 := rFlat_set R.c (L.set j { v with x := x }) j 3 { v with x := x } { v with x := x, y := y } (.int .i64 y) (by rw [List.getElem?_set_self hjl]) (by omega) rfl
    rw [List.set_set] at e2
    rw [← e2, ← e1]
    exact row_set (row_set hr _ _) _ _
  clear h hr hw hj hne hl
  go_enter Tryz.func98, Tryz.ntmps98
  go_wp2_with (first | (go_at_call 143; refine (H.out).mono ?_; rintro e w' ⟨rfl, hw'⟩; replace hw' := hw'.symm; subst hw') | (go_at_call 80; refine (rdPlace _ _ _).mono ?_; rintro e w' ⟨rfl, hw'⟩; replace hw' := hw'.symm; subst hw'))
  go_ret
  exact HP.out
end
end Go.Proofs.YtjlfibhbfdckpaaGreatDoor

/- The document's desk: a window's cells; Shape, Scroll. -/
namespace Go.Proofs.YtjlfibhbfdckpaaGreatDoor
open Go.RowKit
attribute [local go_sem ↓] Go.wp_at_zero Go.wp_at_succ
section
variable {R : Rm} {L : List Wn} {last : Int}
theorem rFlat_upd (c : Int → Nat) (n : Int) (f : Wn → Wn) (hf : ∀ u, rVals c (f u) = rVals c u) : rFlat c (updL L n f) = rFlat c L := by
  unfold rFlat updL
  rw [List.flatMap_map]
  congr 1
  funext u
  show rVals c (if u.n = n then f u else u) = rVals c u
  split
  · exact hf u
  · rfl
def Rm.setG (R : Rm) (n : Int) (g cap : Nat) : Rm := { R with g := updI' R.g n g, cap := updI' R.cap n cap }
theorem rsetG_blk {n : Int} {g cap : Nat} {p : Pl} (hp : p ≠ .win n 1) (hk : ∀ m k, p = .win m k → k < 2) : (R.setG n g cap).blk p = R.blk p := by
  cases p with
  | top k => cases k <;> rfl
  | win m k =>
    have := hk m k rfl
    match k, this with
    | 0, _ => rfl
    | 1, _ =>
      show some (updI' R.g n g m) = some (R.g m)
      rw [updI'_other _ _ (fun e => hp (by rw [e]))]
theorem okR_k {p : Pl} (h : p.okR L) : ∀ m k, p = .win m k → k < 2 := by
  rintro m k rfl; exact h.1
theorem RkAt.setG {w w' : World} (h : RkAt w R L last) (ok : DOk L last) {v : Wn} (hv : v ∈ L) (W' H' g' cap' : Nat) (G' : Nat → Nat → Cel) (hwf : Wf W' H' G') (hc : Cels w' (R.c v.n) g' cap' W' H' (H' * W') G')
    (hk : Keep (fun i => i = R.c v.n ∨ i = R.g v.n) w w') (hg : g' = R.g v.n ∨ w.heap.size ≤ g') (r : Value) : RkPost R L (updL L v.n (fun u => { u with W := W', H := H', G := G' })) last w r (.returned r) w' := by
  obtain ⟨rk, K, T⟩ := ok.tree
  have hok := okR_upd (L := L) (n := v.n) (f := fun u => { u with W := W', H := H', G := G' }) (fun u _ e => e)
  have kp : ∀ (p : Pl) (i : Nat), p.okR L → R.blk p = some i → p ≠ .win v.n 0 → p ≠ .win v.n 1 → w'.heap[i]? = w.heap[i]? := fun p i hp e n1 n2 => hk.block i (h.lt ⟨p, hp, e⟩) (by
    rintro (e' | e')
    · exact h.ne (p := p) (q := .win v.n 0) hp ⟨by omega, v, hv, rfl⟩ e rfl n1 e'
    · exact h.ne (p := p) (q := .win v.n 1) hp ⟨by omega, v, hv, rfl⟩ e rfl n2 e')
  have hb1 : (R.setG v.n g' cap').blk (.win v.n 1) = some g' := by show some (updI' R.g v.n g' v.n) = _; rw [updI'_same]
  have hown : ∀ i, (R.setG v.n g' cap').own (updL L v.n (fun u => { u with W := W', H := H', G := G' })) i → R.own L i ∨ w.heap.size ≤ i := fun i ⟨p, hp, e⟩ => by
    have hp' := (hok p).1 hp
    by_cases e1 : p = .win v.n 1
    · subst e1
      rw [hb1] at e
      obtain rfl : g' = i := by simpa using e
      rcases hg with rfl | hg
      · exact .inl (rown_g R hv)
      · exact .inr hg
    · exact .inl ⟨p, hp', by rw [← rsetG_blk e1 (okR_k hp')]; exact e⟩
  have h0 := h.two _ (rown_d R L)
  have h1 := h.lt (rown_d R L)
  refine ⟨R.setG v.n g' cap', rfl, ⟨(kp (.top 0) _ (show 0 < 2 by omega) rfl (by simp) (by simp)).trans h.blk, ?_, ?_, ?_, ?_, ?_⟩, rfl, hk.mono (fun i e => by rcases e with rfl | rfl; exact rown_c R hv; exact rown_g R hv), hown⟩
  · show w'.ownsRow _ _ _ R.l _ (rFlat R.c _)
    rw [rFlat_upd R.c v.n (fun u => { u with W := W', H := H', G := G' }) (fun _ => rfl), show (updL L v.n (fun u => { u with W := W', H := H', G := G' })).length = L.length by simp [updL]]
    exact ownsRow_same h.row (fun i hi => kp (.top 1) i (show 1 < 2 by omega) hi (by simp) (by simp))
  · intro u hu
    show Cels w' (R.c u.n) (updI' R.g v.n g' u.n) (updI' R.cap v.n cap' u.n) u.W u.H (u.H * u.W) u.G
    rcases mem_updL hv rfl u hu T.nd with rfl | ⟨huL, hne⟩
    · show Cels w' (R.c v.n) (updI' R.g v.n g' v.n) (updI' R.cap v.n cap' v.n) W' H' (H' * W') G'
      rw [updI'_same, updI'_same]; exact hc
    · rw [updI'_other _ _ hne, updI'_other _ _ hne]
      have hne' : ∀ k j, (Pl.win u.n k) ≠ .win v.n j := fun k j e => by injection e with e1; exact hne e1
      exact (h.win u huL).same (kp (.win u.n 0) _ ⟨by omega, u, huL, rfl⟩ rfl (hne' _ _) (hne' _ _)) (kp (.win u.n 1) _ ⟨by omega, u, huL, rfl⟩ rfl (hne' _ _) (hne' _ _))
  · intro u hu
    rcases mem_updL hv rfl u hu T.nd with rfl | ⟨huL, hne⟩
    · exact hwf
    · exact h.wf u huL
  · intro p q i hp hq e1 e2
    have hp' := (hok p).1 hp
    have hq' := (hok q).1 hq
    have old : ∀ p : Pl, p.okR L → p ≠ .win v.n 1 → (R.setG v.n g' cap').blk p = R.blk p := fun p hp hn => rsetG_blk hn (okR_k hp)
    by_cases c1 : p = .win v.n 1
    · by_cases c2 : q = .win v.n 1
      · rw [c1, c2]
      · rw [c1, hb1] at e1
        obtain rfl : g' = i := by simpa using e1
        rw [old q hq' c2] at e2
        rcases hg with rfl | hg
        · rw [c1]; exact h.inj _ _ _ ⟨by omega, v, hv, rfl⟩ hq' rfl e2
        · have := h.lt ⟨q, hq', e2⟩; omega
    · by_cases c2 : q = .win v.n 1
      · rw [c2, hb1] at e2
        obtain rfl : g' = i := by simpa using e2
        rw [old p hp' c1] at e1
        rcases hg with rfl | hg
        · rw [c2]; exact h.inj _ _ _ hp' ⟨by omega, v, hv, rfl⟩ e1 rfl
        · have := h.lt ⟨p, hp', e1⟩; omega
      · rw [old p hp' c1] at e1
        rw [old q hq' c2] at e2
        exact h.inj p q i hp' hq' e1 e2
  · intro i hi
    rcases hown i hi with e | e
    · exact h.two i e
    · omega
theorem updG_eq (ok : DOk L last) {v : Wn} (hv : v ∈ L) {G : Nat → Nat → Cel} : updL L v.n (fun u => { u with W := v.W, H := v.H, G := G }) = updL L v.n (fun u => { u with G := G }) := by
  obtain ⟨rk, K, T⟩ := ok.tree
  unfold updL
  refine List.map_congr_left fun u hu => ?_
  by_cases e : u.n = v.n
  · obtain rfl := nd_inj T.nd hu hv e
    rfl
  · rw [if_neg e, if_neg e]
set_option maxHeartbeats 1000000 in
theorem rdShape (ok : DOk L last) (w : World) (h : RkAt w R L last) (v : Wn) (j : Nat) (hj : L[j]? = some v) (hne : ∀ i u, i < j → L[i]? = some u → u.n ≠ v.n) (hj0 : j ≠ 0) (W' H' : Nat) (hs : sizeB W' H' = true) :
    Calls Tryz.prog 99 #[.pointer (some ⟨R.d, 0, none⟩), .int .i64 v.n, .int .i64 W', .int .i64 H'] w (RkPost R L (updL L v.n (fun u => { u with W := W', H := H', G := sizedG v.W v.H W' v.G })) last w (.int .i64 0)) := by
  have HR : Hid (RkAt w R L last) := h
  have hv : v ∈ L := List.mem_of_getElem? hj
  have H : Hid (Calls Tryz.prog 143 #[.pointer (some ⟨R.d, 0, none⟩), .int .i64 v.n] w fun e w' => e = .returned (.tuple #[.int .i64 j, .int .i64 0]) ∧ w' = w) := rdChild ok w h v j hj hne hj0
  have d0 := h.d0
  obtain ⟨g, cap, hl, hw, hfz, _⟩ := h.sl ok.one
  rw [hl] at d0
  obtain ⟨c0, c1, c2, c3, c4, c5⟩ := hw j v hj
  have hjl : j < L.length := (List.getElem?_eq_some_iff.1 hj).1
  have hjl' : (j : Int) < (L.length : Int) := by omega
  have hz := sizeB_iff.1 hs
  clear h hw hj hne hl
  go_enter Tryz.func99, Tryz.ntmps99
  go_wp2_with (first | (go_at_call 143; refine (H.out).mono ?_; rintro e w' ⟨rfl, hw'⟩; replace hw' := hw'.symm; subst hw') | (go_at_call 73; refine (refSize _ _ _).mono ?_; rintro e w' ⟨rfl, hw'⟩; replace hw' := hw'.symm; subst hw'))
  go_at_call 90
  refine (refSized (R.c v.n) (R.g v.n) (R.cap v.n) v.W v.H _ W' H' v.G _ (HR.out.win v hv) (HR.out.wf v hv) (by omega) (by omega) (by omega) (by omega)).mono ?_
  rintro e wa ⟨g', cap', rfl, C1, K1, hg⟩
  have HP : Hid (RkPost R L (updL L v.n (fun u => { u with W := W', H := H', G := sizedG v.W v.H W' v.G })) last w (.int .i64 0) (.returned (.int .i64 0)) wa) := HR.out.setG ok hv W' H' g' cap' _ (HR.out.wf v hv).sized C1 (K1.mono (fun i e => .inl e)) (.inr hg) _
  clear C1 K1 hg HR
  go_wp2_with fail
  go_ret
  exact HP.out
set_option maxHeartbeats 1000000 in
theorem rdScroll (ok : DOk L last) (w : World) (h : RkAt w R L last) (v : Wn) (j : Nat) (hj : L[j]? = some v) (hne : ∀ i u, i < j → L[i]? = some u → u.n ≠ v.n) (n : Int) :
    Calls Tryz.prog 36 #[.pointer (some ⟨R.d, 0, none⟩), .int .i64 v.n, .int .i64 n] w (RkPost R L (updL L v.n (fun u => { u with G := scrollG 0 ((v.H : Int) - 1) n Pn.plain v.G })) last w (.int .i64 0)) := by
  have HR : Hid (RkAt w R L last) := h
  have hv : v ∈ L := List.mem_of_getElem? hj
  have H : Hid (Calls Tryz.prog 79 #[.pointer (some ⟨R.d, 0, none⟩), .int .i64 v.n] w fun e w' => e = .returned (.int .i64 j) ∧ w' = w) := rdAtIn ok w h v j hj hne
  have d0 := h.d0
  obtain ⟨g, cap, hl, hw, hfz, _⟩ := h.sl ok.one
  rw [hl] at d0
  obtain ⟨c0, c1, c2, c3, c4, c5⟩ := hw j v hj
  have hjl : j < L.length := (List.getElem?_eq_some_iff.1 hj).1
  have hjl' : (j : Int) < (L.length : Int) := by omega
  have hj1 : ¬ (j : Int) < 0 := by omega
  have e1 := (h.win v hv).c1
  have h1 := (h.win v hv).h1
  have h2 := (h.win v hv).h2
  clear h hw hj hne hl
  go_enter Tryz.func36, Tryz.ntmps36
  go_wp2_with (first | (go_at_call 79; refine (H.out).mono ?_; rintro e w' ⟨rfl, hw'⟩; replace hw' := hw'.symm; subst hw'))
  have hs := refScroll (R.c v.n) (R.g v.n) (R.cap v.n) v.W v.H _ v.G 0 (v.H - 1) n Pn.plain w (HR.out.win v hv) (by omega)
  rw [show ((v.H - 1 : Nat) : Int) = (v.H : Int) - 1 by omega] at hs
  go_at_call 89
  refine hs.mono ?_
  rintro e wa ⟨g', cap', rfl, C1, K1, hg⟩
  have HP : Hid (RkPost R L (updL L v.n (fun u => { u with G := scrollG 0 ((v.H : Int) - 1) n Pn.plain v.G })) last w (.int .i64 0) (.returned (.int .i64 0)) wa) := by
    show RkPost _ _ _ _ _ _ _ _
    rw [← updG_eq ok hv]
    exact HR.out.setG ok hv v.W v.H g' cap' _ ((HR.out.wf v hv).scroll 0 _ n _ (by omega) (by omega)) C1 (K1.mono (fun i e => .inl e)) (.inr hg) _
  clear C1 K1 hg HR hs
  go_wp2_with fail
  go_ret
  exact HP.out
set_option maxHeartbeats 1000000 in
theorem rdResize (ok : DOk L last) (w : World) (h : RkAt w R L last) (v : Wn) (hj : L[0]? = some v) (W' H' : Nat) (hs : sizeB W' H' = true) :
    Calls Tryz.prog 37 #[.pointer (some ⟨R.d, 0, none⟩), .int .i64 W', .int .i64 H'] w (RkPost R L (updL L v.n (fun u => { u with W := W', H := H', G := sizedG v.W v.H W' v.G })) last w (.int .i64 0)) := by
  have HR : Hid (RkAt w R L last) := h
  have hv : v ∈ L := List.mem_of_getElem? hj
  have d0 := h.d0
  obtain ⟨g, cap, hl, hw, hfz, _⟩ := h.sl ok.one
  rw [hl] at d0
  obtain ⟨c0, c1, c2, c3, c4, c5⟩ := hw 0 v hj
  rw [Nat.zero_mul] at c0 c1 c2 c3 c4 c5
  have hjl := ok.one
  have hjl' : (0 : Int) < (L.length : Int) := by omega
  have hz := sizeB_iff.1 hs
  clear h hw hj hl
  go_enter Tryz.func37, Tryz.ntmps37
  go_wp2_with (first | (go_at_call 73; refine (refSize _ _ _).mono ?_; rintro e w' ⟨rfl, hw'⟩; replace hw' := hw'.symm; subst hw'))
  go_at_call 90
  refine (refSized (R.c v.n) (R.g v.n) (R.cap v.n) v.W v.H _ W' H' v.G _ (HR.out.win v hv) (HR.out.wf v hv) (by omega) (by omega) (by omega) (by omega)).mono ?_
  rintro e wa ⟨g', cap', rfl, C1, K1, hg⟩
  have HP : Hid (RkPost R L (updL L v.n (fun u => { u with W := W', H := H', G := sizedG v.W v.H W' v.G })) last w (.int .i64 0) (.returned (.int .i64 0)) wa) := HR.out.setG ok hv W' H' g' cap' _ (HR.out.wf v hv).sized C1 (K1.mono (fun i e => .inl e)) (.inr hg) _
  clear C1 K1 hg HR
  go_wp2_with fail
  go_ret
  exact HP.out
end
end Go.Proofs.YtjlfibhbfdckpaaGreatDoor
