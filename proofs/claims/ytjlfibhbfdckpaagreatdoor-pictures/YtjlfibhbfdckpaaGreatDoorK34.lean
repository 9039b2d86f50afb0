/- Texts of the proof, one behind the other: RdL. -/
import Derived.Test.YtjlfibhbfdckpaaGreatDoorK20
import Derived.Test.YtjlfibhbfdckpaaGreatDoorK21
import Derived.Test.YtjlfibhbfdckpaaGreatDoorK33
/- The document's desk: more calls that fail. -/
namespace Go.Proofs.YtjlfibhbfdckpaaGreatDoor
open Go.RowKit
attribute [local go_sem ↓] Go.wp_at_zero Go.wp_at_succ
section
variable {R : Rm} {L : List Wn} {last : Int}
set_option maxHeartbeats 2000000 in
theorem rdCreateNo (ok : DOk L last) (w : World) (h : RkAt w R L last) (n x y W H : Int) (he : createE L n x y W H ≠ 0) :
    Calls Tryz.prog 96 #[.pointer (some ⟨R.d, 0, none⟩), .int .i64 n, .int .i64 x, .int .i64 y, .int .i64 W, .int .i64 H] w fun e w' => e = .returned (.tuple #[.int .i64 0, .int .i64 (createE L n x y W H)]) ∧ w' = w := by
  have d0 := h.d0
  obtain ⟨g, cap, hl, hw, hfz, _⟩ := h.sl ok.one
  rw [hl] at d0
  clear hw hl hfz
  unfold createE at he ⊢
  cases hn : hasN L n with
  | false =>
    rw [if_pos rfl]
    have H1 : Hid (Calls Tryz.prog 79 #[.pointer (some ⟨R.d, 0, none⟩), .int .i64 n] w fun e w' => e = .returned (.int .i64 (-1)) ∧ w' = w) := rdAtNo ok w h n hn
    clear h he hn
    go_enter Tryz.func96, Tryz.ntmps96
    go_wp2_with (first | (go_at_call 79; refine (H1.out).mono ?_; rintro e w' ⟨rfl, hw'⟩; replace hw' := hw'.symm; subst hw'))
    go_ret2
    exact ⟨rfl, rfl⟩
  | true =>
    rw [hn, if_neg (by simp)] at he
    rw [if_neg (by simp)]
    rcases at_of ok n with ⟨v, hv, rfl, j, hjl, hj, hne, _, h0⟩ | hn'
    · have H1 : Hid (Calls Tryz.prog 79 #[.pointer (some ⟨R.d, 0, none⟩), .int .i64 v.n] w fun e w' => e = .returned (.int .i64 j) ∧ w' = w) := rdAtIn ok w h v j hj hne
      have hj1 : ¬ (j : Int) < 0 := by omega
      clear h hj hne h0
      cases hp : placeB x y with
      | false =>
        rw [if_pos rfl]
        clear he
        go_enter Tryz.func96, Tryz.ntmps96
        go_wp2_with (first | (go_at_call 79; refine (H1.out).mono ?_; rintro e w' ⟨rfl, hw'⟩; replace hw' := hw'.symm; subst hw') | (go_at_call 80; refine (rdPlace _ _ _).mono ?_; rintro e w' ⟨rfl, hw'⟩; replace hw' := hw'.symm; subst hw'))
        go_ret2
        exact ⟨rfl, rfl⟩
      | true =>
        rw [hp, if_neg (by simp)] at he
        rw [if_neg (by simp)]
        cases hs : sizeB W H with
        | false =>
          rw [if_pos rfl]
          clear he
          go_enter Tryz.func96, Tryz.ntmps96
          go_wp2_with (first | (go_at_call 79; refine (H1.out).mono ?_; rintro e w' ⟨rfl, hw'⟩; replace hw' := hw'.symm; subst hw') | (go_at_call 80; refine (rdPlace _ _ _).mono ?_; rintro e w' ⟨rfl, hw'⟩; replace hw' := hw'.symm; subst hw') | (go_at_call 73; refine (refSize _ _ _).mono ?_; rintro e w' ⟨rfl, hw'⟩; replace hw' := hw'.symm; subst hw'))
          go_ret2
          exact ⟨rfl, rfl⟩
        | true =>
          rw [hs, if_neg (by simp)] at he
          rw [if_neg (by simp)]
          by_cases h16 : 16 ≤ L.length
          · rw [if_pos h16]
            have h16' : (16 : Int) ≤ (L.length : Int) := by omega
            clear he
            go_enter Tryz.func96, Tryz.ntmps96
            go_wp2_with (first | (go_at_call 79; refine (H1.out).mono ?_; rintro e w' ⟨rfl, hw'⟩; replace hw' := hw'.symm; subst hw') | (go_at_call 80; refine (rdPlace _ _ _).mono ?_; rintro e w' ⟨rfl, hw'⟩; replace hw' := hw'.symm; subst hw') | (go_at_call 73; refine (refSize _ _ _).mono ?_; rintro e w' ⟨rfl, hw'⟩; replace hw' := hw'.symm; subst hw'))
            go_ret2
            exact ⟨rfl, rfl⟩
          · rw [if_neg h16] at he; exact absurd rfl he
    · rw [hn] at hn'; simp at hn'
theorem rdCreateNil (w : World) (n x y W H : Int) :
    Calls Tryz.prog 96 #[.pointer none, .int .i64 n, .int .i64 x, .int .i64 y, .int .i64 W, .int .i64 H] w fun e w' => e = .returned (.tuple #[.int .i64 0, .int .i64 1]) ∧ w' = w := by
  go_enter Tryz.func96, Tryz.ntmps96
  go_wp2_with (first | (go_at_call 79; refine (rdAtNil _ _).mono ?_; rintro e w' ⟨rfl, hw'⟩; replace hw' := hw'.symm; subst hw'))
  go_ret2
  exact ⟨rfl, rfl⟩
theorem rdGiveNil (w : World) (n m : Int) :
    Calls Tryz.prog 102 #[.pointer none, .int .i64 n, .int .i64 m] w fun e w' => e = .returned (.int .i64 1) ∧ w' = w := by
  go_enter Tryz.func102, Tryz.ntmps102
  go_wp2_with (first | (go_at_call 79; refine (rdAtNil _ _).mono ?_; rintro e w' ⟨rfl, hw'⟩; replace hw' := hw'.symm; subst hw'))
  go_ret
  exact ⟨rfl, rfl⟩
theorem rdGiveNone (ok : DOk L last) (w : World) (h : RkAt w R L last) (n m : Int) (hm : hasN L m = false) :
    Calls Tryz.prog 102 #[.pointer (some ⟨R.d, 0, none⟩), .int .i64 n, .int .i64 m] w fun e w' => e = .returned (.int .i64 1) ∧ w' = w := by
  have H2 : Hid (Calls Tryz.prog 79 #[.pointer (some ⟨R.d, 0, none⟩), .int .i64 m] w fun e w' => e = .returned (.int .i64 (-1)) ∧ w' = w) := rdAtNo ok w h m hm
  rcases at_of ok n with ⟨v, hv, rfl, j, hjl, hj, hne, _, h0⟩ | hn
  · have H1 : Hid (Calls Tryz.prog 79 #[.pointer (some ⟨R.d, 0, none⟩), .int .i64 v.n] w fun e w' => e = .returned (.int .i64 j) ∧ w' = w) := rdAtIn ok w h v j hj hne
    have hj1 : ¬ (j : Int) < 0 := by omega
    clear h hj hne h0
    go_enter Tryz.func102, Tryz.ntmps102
    go_wp2_with fail
    go_at_call 79
    refine H1.out.mono ?_
    rintro e w' ⟨rfl, hw'⟩
    replace hw' := hw'.symm
    subst hw'
    go_wp2_with (first | (go_at_call 79; refine (H2.out).mono ?_; rintro e w' ⟨rfl, hw'⟩; replace hw' := hw'.symm; subst hw'))
    go_ret
    exact ⟨rfl, rfl⟩
  · have H1 : Hid (Calls Tryz.prog 79 #[.pointer (some ⟨R.d, 0, none⟩), .int .i64 n] w fun e w' => e = .returned (.int .i64 (-1)) ∧ w' = w) := rdAtNo ok w h n hn
    clear h
    go_enter Tryz.func102, Tryz.ntmps102
    go_wp2_with fail
    go_at_call 79
    refine H1.out.mono ?_
    rintro e w' ⟨rfl, hw'⟩
    replace hw' := hw'.symm
    subst hw'
    go_wp2_with (first | (go_at_call 79; refine (H2.out).mono ?_; rintro e w' ⟨rfl, hw'⟩; replace hw' := hw'.symm; subst hw'))
    go_ret
    exact ⟨rfl, rfl⟩
theorem rdGiveNo (ok : DOk L last) (w : World) (h : RkAt w R L last) (n : Int) (q : Wn) (k : Nat) (hk : L[k]? = some q) (hnk : ∀ i u, i < k → L[i]? = some u → u.n ≠ q.n) (he : childE L n ≠ 0) :
    Calls Tryz.prog 102 #[.pointer (some ⟨R.d, 0, none⟩), .int .i64 n, .int .i64 q.n] w fun e w' => e = .returned (.int .i64 (childE L n)) ∧ w' = w := by
  have H2 : Hid (Calls Tryz.prog 79 #[.pointer (some ⟨R.d, 0, none⟩), .int .i64 q.n] w fun e w' => e = .returned (.int .i64 k) ∧ w' = w) := rdAtIn ok w h q k hk hnk
  have hk1 : ¬ (k : Int) < 0 := by omega
  clear hk hnk
  unfold childE at he ⊢
  rcases at_of ok n with ⟨v, hv, rfl, j, hjl, hj, hne, _, h0⟩ | hn
  · have hh : hasN L v.n = true := hasN_iff.2 ⟨v, hv, rfl⟩
    rw [if_neg (by simp [hh])] at he ⊢
    by_cases e0 : v.n = 0
    · rw [if_pos e0]
      obtain rfl := h0.2 e0
      have H1 : Hid (Calls Tryz.prog 79 #[.pointer (some ⟨R.d, 0, none⟩), .int .i64 v.n] w fun e w' => e = .returned (.int .i64 0) ∧ w' = w) := rdAtIn ok w h v 0 hj hne
      clear h hj hne h0 he e0
      go_enter Tryz.func102, Tryz.ntmps102
      go_wp2_with fail
      go_at_call 79
      refine H1.out.mono ?_
      rintro e w' ⟨rfl, hw'⟩
      replace hw' := hw'.symm
      subst hw'
      go_wp2_with (first | (go_at_call 79; refine (H2.out).mono ?_; rintro e w' ⟨rfl, hw'⟩; replace hw' := hw'.symm; subst hw'))
      go_ret
      exact ⟨rfl, rfl⟩
    · rw [if_neg e0] at he; omega
  · rw [if_pos hn]
    have H1 : Hid (Calls Tryz.prog 79 #[.pointer (some ⟨R.d, 0, none⟩), .int .i64 n] w fun e w' => e = .returned (.int .i64 (-1)) ∧ w' = w) := rdAtNo ok w h n hn
    clear h he
    go_enter Tryz.func102, Tryz.ntmps102
    go_wp2_with fail
    go_at_call 79
    refine H1.out.mono ?_
    rintro e w' ⟨rfl, hw'⟩
    replace hw' := hw'.symm
    subst hw'
    go_wp2_with (first | (go_at_call 79; refine (H2.out).mono ?_; rintro e w' ⟨rfl, hw'⟩; replace hw' := hw'.symm; subst hw'))
    go_ret
    exact ⟨rfl, rfl⟩
set_option maxHeartbeats 2000000 in
theorem rdWriteNo (ok : DOk L last) (w : World) (h : RkAt w R L last) (n x y : Int) (b : ByteArray) (p : Pn) (he : writeE L n x y b p ≠ 0) :
    Calls Tryz.prog 32 #[.pointer (some ⟨R.d, 0, none⟩), .int .i64 n, .int .i64 x, .int .i64 y, .string b, p.agg] w fun e w' => e = .returned (.int .i64 (writeE L n x y b p)) ∧ Below w.heap.size w w' := by
  have hb1 : Below w.heap.size w (w.alloc (.cells #[.int .i64 p.f, .int .i64 p.b, .bool p.bo, .bool p.un, .bool p.re] 33)) := (Below.refl _ _).alloc (Nat.le_refl _) _
  have hRa : RkAt (w.alloc (.cells #[.int .i64 p.f, .int .i64 p.b, .bool p.bo, .bool p.un, .bool p.re] 33)) R L last := h.below hb1
  clear h
  unfold writeE at he ⊢
  rcases at_of ok n with ⟨v, hv, rfl, j, hjl, hj, hne, _, h0⟩ | hn
  · have hh : hasN L v.n = true := hasN_iff.2 ⟨v, hv, rfl⟩
    rw [if_neg (by simp [hh])] at he ⊢
    have H1 : Hid (Calls Tryz.prog 79 #[.pointer (some ⟨R.d, 0, none⟩), .int .i64 v.n] (w.alloc (.cells #[.int .i64 p.f, .int .i64 p.b, .bool p.bo, .bool p.un, .bool p.re] 33)) fun e w' => e = .returned (.int .i64 j) ∧ w' = (w.alloc (.cells #[.int .i64 p.f, .int .i64 p.b, .bool p.bo, .bool p.un, .bool p.re] 33))) := rdAtIn ok _ hRa v j hj hne
    have hj1 : ¬ (j : Int) < 0 := by omega
    clear hRa hj hne h0 hh
    by_cases h2 : placeB x y = false
    · rw [if_pos h2]
      clear he
      all_goals
        go_enter Tryz.func32, Tryz.ntmps32
        go_wp2_with (first | (go_at_call 79; refine (H1.out).mono ?_; rintro e w' ⟨rfl, hw'⟩; replace hw' := hw'.symm; subst hw') | (go_at_call 80; refine (rdPlace _ _ _).mono ?_; rintro e w' ⟨rfl, hw'⟩; replace hw' := hw'.symm; subst hw'))
        go_ret
        exact ⟨rfl, hb1⟩
    rw [if_neg h2] at he ⊢
    have h2p : placeB x y = true := by simpa using h2
    clear h2
    by_cases h2 : 200 < b.size
    · rw [if_pos h2]
      have h3' : (200 : Int) < (b.size : Int) := by omega
      clear he
      all_goals
        go_enter Tryz.func32, Tryz.ntmps32
        go_wp2_with (first | (go_at_call 79; refine (H1.out).mono ?_; rintro e w' ⟨rfl, hw'⟩; replace hw' := hw'.symm; subst hw') | (go_at_call 80; refine (rdPlace _ _ _).mono ?_; rintro e w' ⟨rfl, hw'⟩; replace hw' := hw'.symm; subst hw'))
        go_ret
        exact ⟨rfl, hb1⟩
    rw [if_neg h2] at he ⊢
    have h3' : ¬ (200 : Int) < (b.size : Int) := by omega
    clear h2
    by_cases h4 : penB p = false
    · rw [if_pos h4]
      clear he
      obtain ⟨p0, p1, p2, p3, p4⟩ := pen_new w p 33
      go_enter Tryz.func32, Tryz.ntmps32
      go_wp2_with (first | (go_at_call 79; refine (H1.out).mono ?_; rintro e w' ⟨rfl, hw'⟩; replace hw' := hw'.symm; subst hw') | (go_at_call 80; refine (rdPlace _ _ _).mono ?_; rintro e w' ⟨rfl, hw'⟩; replace hw' := hw'.symm; subst hw'))
      go_at_call 81
      refine (rdPen p _).mono ?_
      rw [h4]
      rintro e wb ⟨rfl, hbb⟩
      have HB : Hid (Below w.heap.size w wb) := hb1.trans (hbb.mono hb1.size)
      clear p0 p1 p2 p3 p4 hbb
      go_wp2_with fail
      go_ret
      exact ⟨rfl, HB.out⟩
    · rw [if_neg h4] at he; omega
  · rw [if_pos hn]
    have H1 : Hid (Calls Tryz.prog 79 #[.pointer (some ⟨R.d, 0, none⟩), .int .i64 n] (w.alloc (.cells #[.int .i64 p.f, .int .i64 p.b, .bool p.bo, .bool p.un, .bool p.re] 33)) fun e w' => e = .returned (.int .i64 (-1)) ∧ w' = (w.alloc (.cells #[.int .i64 p.f, .int .i64 p.b, .bool p.bo, .bool p.un, .bool p.re] 33))) := rdAtNo ok _ hRa n hn
    clear hRa he hn
    go_enter Tryz.func32, Tryz.ntmps32
    go_wp2_with (first | (go_at_call 79; refine (H1.out).mono ?_; rintro e w' ⟨rfl, hw'⟩; replace hw' := hw'.symm; subst hw'))
    go_ret
    exact ⟨rfl, hb1⟩
theorem rdWriteNil (w : World) (n x y : Int) (b : ByteArray) (p : Pn) :
    Calls Tryz.prog 32 #[.pointer none, .int .i64 n, .int .i64 x, .int .i64 y, .string b, p.agg] w fun e w' => e = .returned (.int .i64 1) ∧ Below w.heap.size w w' := by
  go_enter Tryz.func32, Tryz.ntmps32
  go_wp2_with (first | (go_at_call 79; refine (rdAtNil _ _).mono ?_; rintro e w' ⟨rfl, hw'⟩; replace hw' := hw'.symm; subst hw'))
  go_ret
  exact ⟨rfl, (Below.refl _ _).alloc (Nat.le_refl _) _⟩
set_option maxHeartbeats 2000000 in
theorem rdFillNo (ok : DOk L last) (w : World) (h : RkAt w R L last) (n x y ww hh : Int) (p : Pn) (he : fillE L n x y ww hh p ≠ 0) :
    Calls Tryz.prog 34 #[.pointer (some ⟨R.d, 0, none⟩), .int .i64 n, .int .i64 x, .int .i64 y, .int .i64 ww, .int .i64 hh, p.agg] w fun e w' => e = .returned (.int .i64 (fillE L n x y ww hh p)) ∧ Below w.heap.size w w' := by
  have hb1 : Below w.heap.size w (w.alloc (.cells #[.int .i64 p.f, .int .i64 p.b, .bool p.bo, .bool p.un, .bool p.re] 33)) := (Below.refl _ _).alloc (Nat.le_refl _) _
  have hRa : RkAt (w.alloc (.cells #[.int .i64 p.f, .int .i64 p.b, .bool p.bo, .bool p.un, .bool p.re] 33)) R L last := h.below hb1
  clear h
  unfold fillE at he ⊢
  rcases at_of ok n with ⟨v, hv, rfl, j, hjl, hj, hne, _, h0⟩ | hn
  · have hh : hasN L v.n = true := hasN_iff.2 ⟨v, hv, rfl⟩
    rw [if_neg (by simp [hh])] at he ⊢
    have H1 : Hid (Calls Tryz.prog 79 #[.pointer (some ⟨R.d, 0, none⟩), .int .i64 v.n] (w.alloc (.cells #[.int .i64 p.f, .int .i64 p.b, .bool p.bo, .bool p.un, .bool p.re] 33)) fun e w' => e = .returned (.int .i64 j) ∧ w' = (w.alloc (.cells #[.int .i64 p.f, .int .i64 p.b, .bool p.bo, .bool p.un, .bool p.re] 33))) := rdAtIn ok _ hRa v j hj hne
    have hj1 : ¬ (j : Int) < 0 := by omega
    clear hRa hj hne h0 hh
    by_cases h2 : placeB x y = false
    · rw [if_pos h2]
      clear he
      all_goals
        go_enter Tryz.func34, Tryz.ntmps34
        go_wp2_with (first | (go_at_call 79; refine (H1.out).mono ?_; rintro e w' ⟨rfl, hw'⟩; replace hw' := hw'.symm; subst hw') | (go_at_call 80; refine (rdPlace _ _ _).mono ?_; rintro e w' ⟨rfl, hw'⟩; replace hw' := hw'.symm; subst hw'))
        go_ret
        exact ⟨rfl, hb1⟩
    rw [if_neg h2] at he ⊢
    have h2p : placeB x y = true := by simpa using h2
    clear h2
    by_cases h2 : rectB ww hh = false
    · rw [if_pos h2]
      have hrr : (Wd.inB ww 0 1000 && Wd.inB hh 0 1000) = false := h2
      cases hr1 : Wd.inB ww 0 1000 <;> cases hr2 : Wd.inB hh 0 1000 <;> simp [hr1, hr2] at hrr
      clear he
      all_goals
        go_enter Tryz.func34, Tryz.ntmps34
        go_wp2_with (first | (go_at_call 79; refine (H1.out).mono ?_; rintro e w' ⟨rfl, hw'⟩; replace hw' := hw'.symm; subst hw') | (go_at_call 80; refine (rdPlace _ _ _).mono ?_; rintro e w' ⟨rfl, hw'⟩; replace hw' := hw'.symm; subst hw') | (go_at_call 86; refine (Wd.refBetween _ _ _ _).mono ?_; rintro e w' ⟨rfl, hw'⟩; replace hw' := hw'.symm; subst hw'))
        go_ret
        exact ⟨rfl, hb1⟩
    rw [if_neg h2] at he ⊢
    have hrr : (Wd.inB ww 0 1000 && Wd.inB hh 0 1000) = true := by cases q : rectB ww hh; exact absurd q h2; exact q
    obtain ⟨hr1, hr2⟩ : Wd.inB ww 0 1000 = true ∧ Wd.inB hh 0 1000 = true := by simpa using hrr
    clear h2
    by_cases h4 : penB p = false
    · rw [if_pos h4]
      clear he
      obtain ⟨p0, p1, p2, p3, p4⟩ := pen_new w p 33
      go_enter Tryz.func34, Tryz.ntmps34
      go_wp2_with (first | (go_at_call 79; refine (H1.out).mono ?_; rintro e w' ⟨rfl, hw'⟩; replace hw' := hw'.symm; subst hw') | (go_at_call 80; refine (rdPlace _ _ _).mono ?_; rintro e w' ⟨rfl, hw'⟩; replace hw' := hw'.symm; subst hw') | (go_at_call 86; refine (Wd.refBetween _ _ _ _).mono ?_; rintro e w' ⟨rfl, hw'⟩; replace hw' := hw'.symm; subst hw'))
      go_at_call 81
      refine (rdPen p _).mono ?_
      rw [h4]
      rintro e wb ⟨rfl, hbb⟩
      have HB : Hid (Below w.heap.size w wb) := hb1.trans (hbb.mono hb1.size)
      clear p0 p1 p2 p3 p4 hbb
      go_wp2_with fail
      go_ret
      exact ⟨rfl, HB.out⟩
    · rw [if_neg h4] at he; omega
  · rw [if_pos hn]
    have H1 : Hid (Calls Tryz.prog 79 #[.pointer (some ⟨R.d, 0, none⟩), .int .i64 n] (w.alloc (.cells #[.int .i64 p.f, .int .i64 p.b, .bool p.bo, .bool p.un, .bool p.re] 33)) fun e w' => e = .returned (.int .i64 (-1)) ∧ w' = (w.alloc (.cells #[.int .i64 p.f, .int .i64 p.b, .bool p.bo, .bool p.un, .bool p.re] 33))) := rdAtNo ok _ hRa n hn
    clear hRa he hn
    go_enter Tryz.func34, Tryz.ntmps34
    go_wp2_with (first | (go_at_call 79; refine (H1.out).mono ?_; rintro e w' ⟨rfl, hw'⟩; replace hw' := hw'.symm; subst hw'))
    go_ret
    exact ⟨rfl, hb1⟩
theorem rdFillNil (w : World) (n x y ww hh : Int) (p : Pn) :
    Calls Tryz.prog 34 #[.pointer none, .int .i64 n, .int .i64 x, .int .i64 y, .int .i64 ww, .int .i64 hh, p.agg] w fun e w' => e = .returned (.int .i64 1) ∧ Below w.heap.size w w' := by
  go_enter Tryz.func34, Tryz.ntmps34
  go_wp2_with (first | (go_at_call 79; refine (rdAtNil _ _).mono ?_; rintro e w' ⟨rfl, hw'⟩; replace hw' := hw'.symm; subst hw'))
  go_ret
  exact ⟨rfl, (Below.refl _ _).alloc (Nat.le_refl _) _⟩
end
end Go.Proofs.YtjlfibhbfdckpaaGreatDoor
