/- Texts of the proof, one behind the other: RdT, RdU, RdN. -/
import Derived.Test.YtjlfibhbfdckpaaGreatDoorK41
import Derived.Test.YtjlfibhbfdckpaaGreatDoorK42
import Derived.Test.YtjlfibhbfdckpaaGreatDoorK44
import Derived.Test.YtjlfibhbfdckpaaGreatDoorK48
import Derived.Test.YtjlfibhbfdckpaaGreatDoorK49
/- The document's desk: Delete. -/
namespace Go.Proofs.YtjlfibhbfdckpaaGreatDoor
open Go.RowKit
attribute [local go_sem ↓] Go.wp_at_zero Go.wp_at_succ
/-- A list that is made, behind all else. -/
structure NwD (w : World) (c : Int → Nat) (u : Value) (M : List Wn) (w' : World) : Prop where
  row : w'.ownsRow w.heap.size 107 6 u M.length (rFlat c M)
  bel : Below w.heap.size w w'
theorem NwD.more {w w1 w2 : World} {c : Int → Nat} {u : Value} {M : List Wn} {a : Wn} {g cap : Nat} (h : NwD w c u M w1) (q : Obj) (hr : w2.ownsRow w.heap.size 107 6 (.slice (some ⟨g, 0, none⟩) (M.length + 1) cap) (M.length + 1) (rFlat c (M ++ [a]))) (hg : (w1.alloc q).grownBy w2 u.ownBlock) : NwD w c (.slice (some ⟨g, 0, none⟩) (M.length + 1) cap) (M ++ [a]) w2 :=
  ⟨by rw [List.length_append]; exact hr, (h.bel.alloc h.bel.size _).grown hg (by rw [size_alloc]; have := h.bel.size; omega) (fun i hi => (h.row.lt i hi).1)⟩
theorem NwD.below {w w1 w2 : World} {c : Int → Nat} {u : Value} {M : List Wn} (h : NwD w c u M w1) (b : Below w1.heap.size w1 w2) : NwD w c u M w2 :=
  ⟨ownsRow_same h.row (fun i hi => b.block _ (h.row.lt i hi).2), h.bel.trans (b.mono h.bel.size)⟩
theorem root_ns' {L : List Wn} {rk : Int → Nat} {K : Nat} (T : Tree L rk K) {v : Wn} (hv : v ∈ L) (hv0 : v.n ≠ 0) : ¬ Sub L v.n 0 := by
  intro hs
  obtain ⟨r, hr, h0, hp⟩ := T.rootIn
  rw [← h0] at hs
  have := (sub_up T.nd hr (by rw [h0]; exact fun e => hv0 e.symm)).1 hs
  rw [hp] at this
  have := (Sub.rank T (T.pos hv) this).2
  omega
section
variable {R : Rm} {L : List Wn} {last : Int}
set_option maxRecDepth 20000 in
set_option maxHeartbeats 4000000 in
theorem rdDelete (ok : DOk L last) (w : World) (h : RkAt w R L last) (v : Wn) (j : Nat) (hj : L[j]? = some v) (hne : ∀ i u, i < j → L[i]? = some u → u.n ≠ v.n) (hj0 : j ≠ 0) :
    Calls Tryz.prog 97 #[.pointer (some ⟨R.d, 0, none⟩), .int .i64 v.n] w (RkPost R L (delL L v.n) last w (.int .i64 0)) := by
  have HR : Hid (RkAt w R L last) := h
  have H : Hid (Calls Tryz.prog 143 #[.pointer (some ⟨R.d, 0, none⟩), .int .i64 v.n] w fun e w' => e = .returned (.tuple #[.int .i64 j, .int .i64 0]) ∧ w' = w) := rdChild ok w h v j hj hne hj0
  obtain ⟨g, cap, hl, _, _, _⟩ := h.sl ok.one
  have Hl : Hid (R.l = .slice (some ⟨g, 0, none⟩) L.length cap) := hl
  have h1 := ok.one
  have h16 := ok.len
  have h2B := h.two _ (rown_d R L)
  have hdl := h.lt (rown_d R L)
  obtain ⟨rk, K, T⟩ := ok.tree
  have hv : v ∈ L := List.mem_of_getElem? hj
  have hv0 := T.pos hv
  have hvn0 : v.n ≠ 0 := fun e0 => by
    obtain ⟨r, t, e, e1, _⟩ := T.head
    exact hne 0 r (by omega) (by rw [e]; rfl) (by omega)
  have Hd1 : Hid (1 ≤ (delL L v.n).length) := by
    show 1 ≤ _
    obtain ⟨r, hr, hr0, _⟩ := T.rootIn
    exact List.length_pos_of_mem (mem_delL.2 ⟨hr, by rw [hr0]; exact root_ns' T hv hvn0⟩)
  clear h hl hj hne T
  go_enter Tryz.func97, Tryz.ntmps97
  go_wp2_with (first | (go_at_call 143; refine (H.out).mono ?_; rintro e w' ⟨rfl, hw'⟩; replace hw' := hw'.symm; subst hw'))
  go_loopw [7, 8] (fun u i w' => ∃ k : Nat, k ≤ L.length ∧ i = .int .i64 k ∧ NwD w R.c u (firstD L v.n k) w') (fun _ i _ => 20 - (intOf i).toNat)
  case atStart => exact ⟨0, by omega, rfl, ⟨World.ownsRow_nil _ _ _ _, Below.refl _ _⟩⟩
  case round =>
    obtain ⟨k, hkl, rfl, hN⟩ := hrel
    generalize u7 = u at *
    have HN : Hid (NwD w R.c u (firstD L v.n k) wr) := hN
    have hRr : RkAt wr R L last := HR.out.below hN.bel
    have HRr : Hid (RkAt wr R L last) := hRr
    obtain ⟨g', cap', hl', hw', _, _⟩ := hRr.sl h1
    obtain ⟨rfl, rfl⟩ : g = g' ∧ cap = cap' := by have := Hl.out.symm.trans hl'; simpa using this
    have d0 := hRr.d0
    rw [hl'] at d0
    by_cases hlt : k < L.length
    · have hlt' : (k : Int) < (L.length : Int) := by omega
      obtain ⟨a, ha⟩ : ∃ a, L[k]? = some a := ⟨_, List.getElem?_eq_getElem hlt⟩
      have haL : a ∈ L := List.mem_of_getElem? ha
      have Ha : Hid (L[k]? = some a) := ha
      obtain ⟨c0, c1, c2, c3, c4, c5⟩ := hw' k a ha
      have hfl := firstD_len L v.n k
      clear hN hRr hw' hl' ha
      go_wp2_with fail
      go_at_call 144
      refine (rdWithin ok _ HRr.out a haL v.n hv0).mono ?_
      rintro e w2 ⟨b, rfl, hb, b2⟩
      have Hb : Hid (b = true ↔ Sub L v.n a.n) := hb
      have hN2 : NwD w R.c u (firstD L v.n k) w2 := HN.out.below b2
      have HN2 : Hid (NwD w R.c u (firstD L v.n k) w2) := hN2
      have hR2 : RkAt w2 R L last := HR.out.below hN2.bel
      have z2 := hN2.bel.size
      clear HN HRr b2 hb d0 c0 c1 c2 c3 c4 c5
      obtain ⟨g', cap', hl', hw', _, _⟩ := hR2.sl h1
      obtain ⟨rfl, rfl⟩ : g = g' ∧ cap = cap' := by have := Hl.out.symm.trans hl'; simpa using this
      have d0 := hR2.d0
      rw [hl'] at d0
      obtain ⟨c0, c1, c2, c3, c4, c5⟩ := hw' k a Ha.out
      clear hN2 hR2 hw' hl'
      cases b with
      | true =>
        have HN3 : Hid (NwD w R.c u (firstD L v.n (k + 1)) w2) := by
          show NwD _ _ _ _ _
          rw [firstD_skip Ha.out (Hb.out.1 rfl)]; exact HN2.out
        go_wp2_with fail
        go_roundw
        case rel => exact ⟨k + 1, by omega, by simp, HN3.out⟩
        case measure => simp [intOf]; omega
      | false =>
        have Hfk : Hid (firstD L v.n (k + 1) = firstD L v.n k ++ [a]) := firstD_more Ha.out (fun q => by have := Hb.out.2 q; simp at this)
        go_wp2_with (first | (at_builtin; go_must (refine list_append_win _ (by rfl) (.tmp 41) (.tmp 49) (by rfl) w.heap.size u R.c (firstD L v.n k) a _ rfl (by rfl) (ownsRow_same HN2.out.row (fun i hi => Below.heap_alloc _ _ _ (ownsRow_lt HN2.out.row hi).1)) w2.heap.size (by rfl) (heap_at _ _ _ (by simp)) (by omega) (by simp only [size_alloc]; omega) ?_); intro g7 cap7 w7 hr7 hg7 ho7 hl7))
        have HN3 : Hid (NwD w R.c (.slice (some ⟨g7, 0, none⟩) ((firstD L v.n k).length + 1) cap7) (firstD L v.n (k + 1)) w7) := by
          show NwD _ _ _ _ _
          rw [Hfk.out]
          exact HN2.out.more _ hr7 hg7
        clear hr7 hg7 ho7
        go_wp2_with fail
        go_roundw
        case rel => exact ⟨k + 1, by omega, by simp, HN3.out⟩
        case measure => simp [intOf]; omega
    · have hlt' : ¬ (k : Int) < (L.length : Int) := by omega
      obtain rfl : k = L.length := by omega
      have HN2 : Hid (NwD w R.c u (delL L v.n) wr) := by
        show NwD _ _ _ _ _
        rw [← firstD_all]; exact hN
      have fzw := frozen_of_block ((hN.bel.block _ hdl).trans HR.out.blk)
      clear hN HN hRr HRr hw' hl'
      obtain ⟨gu, cu, rfl⟩ := row_slice HN2.out.row Hd1.out
      have HP : Hid (RkPost R L (delL L v.n) last w (.int .i64 0) (.returned (.int .i64 0)) (wr.setCell ⟨R.d, 0, none⟩ (.slice (some ⟨gu, 0, none⟩) (delL L v.n).length cu))) := by
        have hkk : Keep (fun i => i = R.d) w (wr.setCell ⟨R.d, 0, none⟩ (.slice (some ⟨gu, 0, none⟩) (delL L v.n).length cu)) := (Keep.below (fun i => i = R.d) HN2.out.bel).setCell ⟨R.d, 0, none⟩ _ (fun _ => rfl)
        have hbd : wr.heap[R.d]? = some (.cells #[R.l, .int .i64 last] 110) := (HN2.out.bel.block _ hdl).trans HR.out.blk
        exact HR.out.relist (delL L v.n) (.slice (some ⟨gu, 0, none⟩) (delL L v.n).length cu) (fun i hi => (HN2.out.row.lt i hi).1) (fun u hu => ⟨u, (mem_delL.1 hu).1, rfl, rfl, rfl, rfl⟩) (heap_set_same hbd 0 _) (ownsRow_mono (ownsRow_same HN2.out.row (fun i hi => Below.heap_setCell _ _ _ _ (by have := (HN2.out.row.lt i hi).1; show i ≠ R.d; omega))) (by omega)) hkk _
      go_wp2_with fail
      go_ret
      exact HP.out
end
end Go.Proofs.YtjlfibhbfdckpaaGreatDoor

/- The document's desk: Give. -/
namespace Go.Proofs.YtjlfibhbfdckpaaGreatDoor
open Go.RowKit
attribute [local go_sem ↓] Go.wp_at_zero Go.wp_at_succ
theorem nd_idx' {L : List Wn} (nd : (L.map Wn.n).Nodup) {i j : Nat} {a b : Wn} (hi : L[i]? = some a) (hj : L[j]? = some b) (h : a.n = b.n) : i = j := by
  have h1 := (List.getElem?_eq_some_iff.1 hi).1
  have h2 := (List.getElem?_eq_some_iff.1 hj).1
  have := List.getElem_inj (i := i) (j := j) (h₀ := by simpa using h1) (h₁ := by simpa using h2) nd
  exact this.1 (by rw [List.getElem_map, List.getElem_map, (List.getElem?_eq_some_iff.1 hi).2, (List.getElem?_eq_some_iff.1 hj).2, h])
theorem filtN_set {p : Int} : ∀ {L : List Wn} {j : Nat} {v : Wn}, L[j]? = some v → filtN (L.set j { v with par := p }) v.n = filtN L v.n := by
  intro L
  induction L with
  | nil => intro j v h; simp at h
  | cons a t ih =>
    intro j v h
    cases j with
    | zero =>
      obtain rfl : a = v := by simpa using h
      simp [filtN]
    | succ j =>
      have := ih (j := j) (v := v) (by simpa using h)
      unfold filtN at this ⊢
      rw [List.set_cons_succ, List.filter_cons, List.filter_cons, this]
section
variable {R : Rm} {L : List Wn} {last : Int}
theorem rdRaiseUp (ok : DOk L last) (w : World) (h : RkAt w R L last) (v : Wn) (j : Nat) (hj : L[j]? = some v) (_hne : ∀ i u, i < j → L[i]? = some u → u.n ≠ v.n) (hj0 : j ≠ 0) :
    Calls Tryz.prog 100 #[.pointer (some ⟨R.d, 0, none⟩), .int .i64 v.n, .bool true] w (RkPost R L (topL L v v.par) last w (.int .i64 0)) := by
  obtain ⟨rk, K, T⟩ := ok.tree
  exact rdRaiseUpW ok.one ok.len w h v j hj (fun i u hi hu e => hi (nd_idx' T.nd hu hj e)) hj0
theorem rdRaiseLow (ok : DOk L last) (w : World) (h : RkAt w R L last) (v : Wn) (j : Nat) (hj : L[j]? = some v) (_hne : ∀ i u, i < j → L[i]? = some u → u.n ≠ v.n) (hj0 : j ≠ 0) :
    Calls Tryz.prog 100 #[.pointer (some ⟨R.d, 0, none⟩), .int .i64 v.n, .bool false] w (RkPost R L (botL L v) last w (.int .i64 0)) := by
  obtain ⟨rk, K, T⟩ := ok.tree
  rw [botL_botM]
  exact rdRaiseLowW ok.one ok.len w h v j hj (fun i u hi hu e => hi (nd_idx' T.nd hu hj e)) hj0
set_option maxRecDepth 10000 in
set_option maxHeartbeats 1000000 in
theorem rdGiveLoop (ok : DOk L last) (w : World) (h : RkAt w R L last) (v q : Wn) (j k : Nat) (hj : L[j]? = some v) (hne : ∀ i u, i < j → L[i]? = some u → u.n ≠ v.n) (hj0 : j ≠ 0) (hk : L[k]? = some q) (hnk : ∀ i u, i < k → L[i]? = some u → u.n ≠ q.n) (hs : Sub L v.n q.n) :
    Calls Tryz.prog 102 #[.pointer (some ⟨R.d, 0, none⟩), .int .i64 v.n, .int .i64 q.n] w fun e w' => e = .returned (.int .i64 5) ∧ Below w.heap.size w w' := by
  obtain ⟨rk, K, T⟩ := ok.tree
  have H1 : Hid (Calls Tryz.prog 79 #[.pointer (some ⟨R.d, 0, none⟩), .int .i64 v.n] w fun e w' => e = .returned (.int .i64 j) ∧ w' = w) := rdAtIn ok w h v j hj hne
  have H2 : Hid (Calls Tryz.prog 79 #[.pointer (some ⟨R.d, 0, none⟩), .int .i64 q.n] w fun e w' => e = .returned (.int .i64 k) ∧ w' = w) := rdAtIn ok w h q k hk hnk
  have HR : Hid (RkAt w R L last) := h
  have hq : q ∈ L := List.mem_of_getElem? hk
  have hv0 := T.pos (List.mem_of_getElem? hj)
  have hj1 : ¬ (j : Int) < 0 := by omega
  have hj2 : ¬ (j : Int) = 0 := by omega
  have hk1 : ¬ (k : Int) < 0 := by omega
  have Hs : Hid (Sub L v.n q.n) := hs
  clear h hj hne hk hnk T hs
  go_enter Tryz.func102, Tryz.ntmps102
  go_wp2_with fail
  go_at_call 79
  refine H1.out.mono ?_
  rintro e w' ⟨rfl, hw'⟩
  replace hw' := hw'.symm
  subst hw'
  go_wp2_with (first | (go_at_call 79; refine (H2.out).mono ?_; rintro e w' ⟨rfl, hw'⟩; replace hw' := hw'.symm; subst hw'))
  go_at_call 144
  refine (rdWithin ok _ HR.out q hq v.n hv0).mono ?_
  rintro e w2 ⟨b, rfl, hb, b2⟩
  obtain rfl := hb.2 Hs.out
  clear hb
  go_wp2_with fail
  go_ret
  exact ⟨rfl, b2⟩
set_option maxRecDepth 10000 in
set_option maxHeartbeats 1000000 in
theorem rdGive (ok : DOk L last) (w : World) (h : RkAt w R L last) (v q : Wn) (j k : Nat) (hj : L[j]? = some v) (hne : ∀ i u, i < j → L[i]? = some u → u.n ≠ v.n) (hj0 : j ≠ 0) (hk : L[k]? = some q) (hnk : ∀ i u, i < k → L[i]? = some u → u.n ≠ q.n) (hs : ¬ Sub L v.n q.n) :
    Calls Tryz.prog 102 #[.pointer (some ⟨R.d, 0, none⟩), .int .i64 v.n, .int .i64 q.n] w (RkPost R L (topL L v q.n) last w (.int .i64 0)) := by
  obtain ⟨rk, K, T⟩ := ok.tree
  have H1 : Hid (Calls Tryz.prog 79 #[.pointer (some ⟨R.d, 0, none⟩), .int .i64 v.n] w fun e w' => e = .returned (.int .i64 j) ∧ w' = w) := rdAtIn ok w h v j hj hne
  have H2 : Hid (Calls Tryz.prog 79 #[.pointer (some ⟨R.d, 0, none⟩), .int .i64 q.n] w fun e w' => e = .returned (.int .i64 k) ∧ w' = w) := rdAtIn ok w h q k hk hnk
  have HR : Hid (RkAt w R L last) := h
  have hq : q ∈ L := List.mem_of_getElem? hk
  have hvL : v ∈ L := List.mem_of_getElem? hj
  have hv0 := T.pos hvL
  have hj1 : ¬ (j : Int) < 0 := by omega
  have hj2 : ¬ (j : Int) = 0 := by omega
  have hk1 : ¬ (k : Int) < 0 := by omega
  have Hs : Hid (¬ Sub L v.n q.n) := hs
  have Hj : Hid (L[j]? = some v) := hj
  have Hnd : Hid ((L.map Wn.n).Nodup) := T.nd
  have hjl : j < L.length := (List.getElem?_eq_some_iff.1 hj).1
  have hjl' : (j : Int) < (L.length : Int) := by omega
  clear h hj hne hk hnk T hs
  go_enter Tryz.func102, Tryz.ntmps102
  go_wp2_with fail
  go_at_call 79
  refine H1.out.mono ?_
  rintro e w' ⟨rfl, hw'⟩
  replace hw' := hw'.symm
  subst hw'
  go_wp2_with (first | (go_at_call 79; refine (H2.out).mono ?_; rintro e w' ⟨rfl, hw'⟩; replace hw' := hw'.symm; subst hw'))
  go_at_call 144
  refine (rdWithin ok _ HR.out q hq v.n hv0).mono ?_
  rintro e w2 ⟨b, rfl, hb, b2⟩
  obtain rfl : b = false := by cases b with | false => rfl | true => exact absurd (hb.1 rfl) Hs.out
  have HR2 : Hid (RkAt w2 R L last) := HR.out.below b2
  have HB2 : Hid (Below w.heap.size w w2) := b2
  obtain ⟨g, cap, hl, hw, hfz, _⟩ := HR2.out.sl ok.one
  have d0 := HR2.out.d0
  rw [hl] at d0
  obtain ⟨c0, c1, c2, c3, c4, c5⟩ := hw j v Hj.out
  have hr := HR2.out.row
  rw [hl] at hr
  have HP1 : Hid (RkPost R L (updL L v.n (fun u => { u with par := q.n })) last w2 (.int .i64 0) (.returned (.int .i64 0)) (w2.setCell ⟨g, j * 6 + 1, none⟩ (.int .i64 q.n))) :=
    HR2.out.setRow ok Hj.out hl (fun u => { u with par := q.n }) (fun _ => rfl) (fun _ => ⟨rfl, rfl, rfl⟩) (by rw [← rFlat_set R.c L j 1 v _ (.int .i64 q.n) Hj.out (by omega) rfl]; exact row_set hr _ _) ((Keep.refl _ _).setCell _ _ (fun _ => rfl)) _
  have Hul : Hid (updL L v.n (fun u => { u with par := q.n }) = L.set j { v with par := q.n }) := updL_set Hnd.out Hj.out _
  clear hb b2 hw hl hr HR2
  go_wp2_with fail
  generalize w2.setCell ⟨g, j * 6 + 1, none⟩ (.int .i64 q.n) = w3 at *
  obtain ⟨R', _, D1, t1, k1, o1⟩ := HP1.out
  rw [Hul.out] at D1 o1
  have hl1 : 1 ≤ (L.set j { v with par := q.n }).length := by rw [List.length_set]; exact ok.one
  have hl16 : (L.set j { v with par := q.n }).length ≤ 16 := by rw [List.length_set]; exact ok.len
  have hgj : (L.set j { v with par := q.n })[j]? = some { v with par := q.n } := by rw [List.getElem?_set_self hjl]
  have hg2 : ∀ i u, i ≠ j → (L.set j { v with par := q.n })[i]? = some u → u.n ≠ v.n := fun i u hi hu e => by
    rw [List.getElem?_set_ne (fun q => hi q.symm)] at hu
    exact hi (nd_idx' Hnd.out hu Hj.out e)
  have hcall := rdRaiseUpW (R := R') hl1 hl16 w3 D1 { v with par := q.n } j hgj hg2 hj0
  rw [t1] at hcall
  go_at_call 100
  refine hcall.mono ?_
  rintro e w4 ⟨R2, rfl, D2, t2, k2, o2⟩
  have hfil : filtN (L.set j { v with par := q.n }) v.n = filtN L v.n := filtN_set Hj.out
  have HP : Hid (RkPost R L (topL L v q.n) last w (.int .i64 0) (.returned (.int .i64 0)) w4) := by
    refine ⟨R2, rfl, ?_, t2.trans t1, ?_, ?_⟩
    · have := D2
      rw [hfil] at this
      exact this
    · refine ((Keep.below _ HB2.out).trans k1 (fun _ _ h => h)).trans k2 (fun i hi h => ?_)
      rcases o1 i h with e | e
      · exact e
      · have := HB2.out.size; omega
    · intro i hi
      have hi' : R2.own (filtN (L.set j { v with par := q.n }) v.n ++ [{ v with par := q.n }]) i := by rw [hfil]; exact hi
      have z1 := HB2.out.size
      have z2 := k1.size
      rcases o2 i hi' with e | e
      · rcases o1 i e with e | e
        · exact .inl e
        · exact .inr (by omega)
      · exact .inr (by omega)
  clear D2 k2 o2 hcall
  go_wp2_with fail
  go_ret
  exact HP.out
end
end Go.Proofs.YtjlfibhbfdckpaaGreatDoor

/- The document's desk: all its calls. -/
