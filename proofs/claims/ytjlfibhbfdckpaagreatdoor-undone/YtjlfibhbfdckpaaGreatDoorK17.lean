/- Texts of the proof, one behind the other: DkQ, DkK, DkJ. -/
import Derived.Test.YtjlfibhbfdckpaaGreatDoorK16
/- The calls: Raise, Give. -/
namespace Go.Proofs.YtjlfibhbfdckpaaGreatDoor
open Go.RowKit
attribute [local go_sem ↓] Go.wp_at_zero Go.wp_at_succ
section
variable {M : Mm} {L : List Wn} {last : Int} {N : Nat} {s : Rs} {t : Pt}
theorem DPost.ret {L' : List Wn} {last' : Int} {w w' : World} {r r' : Value} {e : Ending} (h : DPost M L L' last' N s t w r e w') : e = .returned r ∧ DPost M L L' last' N s t w r' (.returned r') w' := by
  obtain ⟨M', e, D, t', K, O⟩ := h
  exact ⟨e, M', rfl, D, t', K, O⟩
set_option maxHeartbeats 1000000 in
theorem kRaise (ok : DOk L last) (w : World) (h : DkAt w M L last N s t) (v : Wn) (hv : v ∈ L) (hp : v.par ≠ -1) (up : Bool) (L' : List Wn) (hr : Calls Tryz.prog 115 #[M.ptr v.n, .bool up] w (DPost M L L' last N s t w (.tuple #[]))) :
    Calls Tryz.prog 52 #[.pointer (some ⟨M.t 0, 0, none⟩), .int .i64 v.n, .bool up] w (DPost M L L' last N s t w (.int .i64 0)) := by
  have HD : Hid (DkAt w M L last N s t) := h
  have Hr : Hid (Calls Tryz.prog 115 #[M.ptr v.n, .bool up] w (DPost M L L' last N s t w (.tuple #[]))) := hr
  clear h hr
  go_enter Tryz.func52, Tryz.ntmps52
  go_wp2_with (first | (go_at_call 111; refine (kBelow ok _ HD.out v hv hp).mono ?_; rintro e w' ⟨rfl, hw'⟩; replace hw' := hw'.symm; subst hw'))
  go_at_call 115
  refine Hr.out.mono ?_
  rintro e w1 hl
  obtain ⟨rfl, HP⟩ := hl.ret (r' := .int .i64 0)
  have HP1 : Hid (DPost M L L' last N s t w (.int .i64 0) (.returned (.int .i64 0)) w1) := HP
  clear hl HP
  go_wp2_with fail
  go_ret
  exact HP1.out
set_option maxHeartbeats 1000000 in
theorem kGive {rk : Int → Nat} {K : Nat} (T : Tree L rk K) (ok : DOk L last) (w : World) (h : DkAt w M L last N s t) (v o q : Wn) (hv : v ∈ L) (ho : o ∈ L) (hq : q ∈ L) (hp : v.par = o.n) (hvo : v.n ≠ o.n) (hns : ¬ Sub L v.n q.n) :
    Calls Tryz.prog 54 #[.pointer (some ⟨M.t 0, 0, none⟩), .int .i64 v.n, .int .i64 q.n] w (DPost M L (topL L v q.n) last N s t w (.int .i64 0)) := by
  have HD : Hid (DkAt w M L last N s t) := h
  have hf := M.fnd_in hq
  have hp1 : v.par ≠ -1 := by have := T.pos ho; omega
  have hvq : v.n ≠ q.n := fun e => hns (e ▸ .refl)
  have Hvq : Hid (v.n ≠ q.n) := hvq
  have Hlies : Hid (Calls Tryz.prog 117 #[M.ptr q.n, M.ptr v.n] w fun e w' => e = .returned (.bool false) ∧ w' = w) := wLies T w h q v hq hv false (by simp [hns])
  clear h hvq
  go_enter Tryz.func54, Tryz.ntmps54
  go_wp2_with (first | (go_at_call 75; refine (kFind ok _ HD.out _).mono ?_; rintro e w' ⟨rfl, hw'⟩; replace hw' := hw'.symm; subst hw') | (go_at_call 111; refine (kBelow ok _ HD.out v hv hp1).mono ?_; rintro e w' ⟨rfl, hw'⟩; replace hw' := hw'.symm; subst hw') | (go_at_call 117; refine (Hlies.out).mono ?_; rintro e w' ⟨rfl, hw'⟩; replace hw' := hw'.symm; subst hw'))
  go_at_call 118
  refine (dGive ok _ HD.out v o q hv ho hq hp hvo Hvq.out).mono ?_
  rintro e w1 hl
  obtain ⟨rfl, HP⟩ := hl.ret (r' := .int .i64 0)
  have HP1 : Hid (DPost M L (topL L v q.n) last N s t w (.int .i64 0) (.returned (.int .i64 0)) w1) := HP
  clear hl HP
  go_wp2_with fail
  go_ret
  exact HP1.out
end
end Go.Proofs.YtjlfibhbfdckpaaGreatDoor

/- The program's calls that fail. -/
namespace Go.Proofs.YtjlfibhbfdckpaaGreatDoor
open Go.RowKit
attribute [local go_sem ↓] Go.wp_at_zero Go.wp_at_succ
/-- The error of a call that asks for a window that is not the root. -/
def childE (L : List Wn) (n : Int) : Int := if hasN L n = false then 1 else if n = 0 then 2 else 0
section
variable {M : Mm} {L : List Wn} {last : Int} {N : Nat} {s : Rs} {t : Pt}
theorem childE_ok (ok : DOk L last) {n : Int} (h : childE L n = 0) : ∃ v ∈ L, v.n = n ∧ v.par ≠ -1 ∧ ∃ o ∈ L, v.par = o.n ∧ v.n ≠ o.n := by
  obtain ⟨rk, K, T⟩ := ok.tree
  unfold childE at h
  split at h
  · omega
  split at h
  · omega
  rename_i h1 h2
  obtain ⟨v, hv, rfl⟩ := hasN_iff.1 (by simpa using h1)
  have hp : 0 ≤ v.par := by
    obtain ⟨r, T', e, e1, e2, e3⟩ := T.head
    rw [e] at hv
    rcases List.mem_cons.1 hv with rfl | hv
    · exact absurd e1 h2
    · exact (e3 v hv).2
  obtain ⟨⟨o, ho, e⟩, hr⟩ := T.up v hv hp
  exact ⟨v, hv, rfl, by omega, o, ho, e.symm, fun e' => by rw [← e, ← e'] at hr; omega⟩
theorem DPost.stay {w w' : World} {r : Value} (h : DkAt w M L last N s t) (hb : Below w.heap.size w w') : DPost M L L last N s t w r (.returned r) w' :=
  ⟨M, rfl, h.below hb, rfl, Keep.below _ hb, fun _ hi => .inl hi⟩
theorem kBelowNo (ok : DOk L last) (w : World) (h : DkAt w M L last N s t) (n : Int) (he : childE L n ≠ 0) :
    Calls Tryz.prog 111 #[.pointer (some ⟨M.t 0, 0, none⟩), .int .i64 n] w fun e w' => e = .returned (.tuple #[.pointer none, .int .i64 (childE L n)]) ∧ w' = w := by
  have HD : Hid (DkAt w M L last N s t) := h
  unfold childE at he ⊢
  by_cases h1 : hasN L n = false
  · rw [if_pos h1]
    have hf : M.fnd L n = none := by unfold Mm.fnd; rw [if_neg (by simp [h1])]
    clear h he
    go_enter Tryz.func111, Tryz.ntmps111
    go_wp2_with (first | (go_at_call 75; refine (kFind ok _ HD.out _).mono ?_; rintro e w' ⟨rfl, hw'⟩; replace hw' := hw'.symm; subst hw'))
    go_ret2
    exact ⟨rfl, rfl⟩
  · rw [if_neg h1] at he ⊢
    by_cases h2 : n = 0
    · rw [if_pos h2]
      obtain ⟨rk, K, T⟩ := ok.tree
      obtain ⟨r, hr, hr0, hrp⟩ := T.rootIn
      obtain rfl : n = r.n := by rw [hr0]; exact h2
      have hf := M.fnd_in hr
      have hpp : (M.pp r.par).isNone = true := by simp [Mm.pp, hrp]
      clear h he T hrp h2 hr0 h1
      go_enter Tryz.func111, Tryz.ntmps111
      go_wp2_with (first | (go_at_call 75; refine (kFind ok _ HD.out _).mono ?_; rintro e w' ⟨rfl, hw'⟩; replace hw' := hw'.symm; subst hw') | (go_at_call 151; refine (wIsRoot r _ _ _ _ _ _ _ (HD.out.win r hr)).mono ?_; rintro e w' ⟨rfl, hw'⟩; replace hw' := hw'.symm; subst hw'))
      go_ret2
      exact ⟨rfl, rfl⟩
    · rw [if_neg h2] at he; omega
theorem kShowNo (ok : DOk L last) (w : World) (h : DkAt w M L last N s t) (n : Int) (b : Bool) (he : childE L n ≠ 0) :
    Calls Tryz.prog 53 #[.pointer (some ⟨M.t 0, 0, none⟩), .int .i64 n, .bool b] w fun e w' => e = .returned (.int .i64 (childE L n)) ∧ w' = w := by
  have HD : Hid (DkAt w M L last N s t) := h
  have hk := kBelowNo ok w h n he
  have Hk : Hid (Calls Tryz.prog 111 #[.pointer (some ⟨M.t 0, 0, none⟩), .int .i64 n] w fun e w' => e = .returned (.tuple #[.pointer none, .int .i64 (childE L n)]) ∧ w' = w) := hk
  clear h hk
  generalize childE L n = er at *
  go_enter Tryz.func53, Tryz.ntmps53
  go_wp2_with (first | (go_at_call 111; refine (Hk.out).mono ?_; rintro e w' ⟨rfl, hw'⟩; replace hw' := hw'.symm; subst hw'))
  go_ret
  exact ⟨rfl, rfl⟩
theorem kMoveNo (ok : DOk L last) (w : World) (h : DkAt w M L last N s t) (n x y : Int) (he : childE L n ≠ 0) :
    Calls Tryz.prog 50 #[.pointer (some ⟨M.t 0, 0, none⟩), .int .i64 n, .int .i64 x, .int .i64 y] w fun e w' => e = .returned (.int .i64 (childE L n)) ∧ w' = w := by
  have HD : Hid (DkAt w M L last N s t) := h
  have hk := kBelowNo ok w h n he
  have Hk : Hid (Calls Tryz.prog 111 #[.pointer (some ⟨M.t 0, 0, none⟩), .int .i64 n] w fun e w' => e = .returned (.tuple #[.pointer none, .int .i64 (childE L n)]) ∧ w' = w) := hk
  clear h hk
  generalize childE L n = er at *
  go_enter Tryz.func50, Tryz.ntmps50
  go_wp2_with (first | (go_at_call 111; refine (Hk.out).mono ?_; rintro e w' ⟨rfl, hw'⟩; replace hw' := hw'.symm; subst hw'))
  go_ret
  exact ⟨rfl, rfl⟩
theorem kMoveOff (ok : DOk L last) (w : World) (h : DkAt w M L last N s t) (v : Wn) (hv : v ∈ L) (hp : v.par ≠ -1) (x y : Int) (hpl : placeB x y = false) :
    Calls Tryz.prog 50 #[.pointer (some ⟨M.t 0, 0, none⟩), .int .i64 v.n, .int .i64 x, .int .i64 y] w fun e w' => e = .returned (.int .i64 4) ∧ w' = w := by
  have HD : Hid (DkAt w M L last N s t) := h
  clear h
  go_enter Tryz.func50, Tryz.ntmps50
  go_wp2_with (first | (go_at_call 111; refine (kBelow ok _ HD.out v hv hp).mono ?_; rintro e w' ⟨rfl, hw'⟩; replace hw' := hw'.symm; subst hw') | (go_at_call 76; refine (pPlace _ _ _).mono ?_; rintro e w' ⟨rfl, hw'⟩; replace hw' := hw'.symm; subst hw'))
  go_ret
  exact ⟨rfl, rfl⟩
theorem kRaiseNo (ok : DOk L last) (w : World) (h : DkAt w M L last N s t) (n : Int) (b : Bool) (he : childE L n ≠ 0) :
    Calls Tryz.prog 52 #[.pointer (some ⟨M.t 0, 0, none⟩), .int .i64 n, .bool b] w fun e w' => e = .returned (.int .i64 (childE L n)) ∧ w' = w := by
  have HD : Hid (DkAt w M L last N s t) := h
  have hk := kBelowNo ok w h n he
  have Hk : Hid (Calls Tryz.prog 111 #[.pointer (some ⟨M.t 0, 0, none⟩), .int .i64 n] w fun e w' => e = .returned (.tuple #[.pointer none, .int .i64 (childE L n)]) ∧ w' = w) := hk
  clear h hk
  generalize childE L n = er at *
  go_enter Tryz.func52, Tryz.ntmps52
  go_wp2_with (first | (go_at_call 111; refine (Hk.out).mono ?_; rintro e w' ⟨rfl, hw'⟩; replace hw' := hw'.symm; subst hw'))
  go_ret
  exact ⟨rfl, rfl⟩
theorem kGiveNone (ok : DOk L last) (w : World) (h : DkAt w M L last N s t) (n m : Int) (hm : hasN L m = false) :
    Calls Tryz.prog 54 #[.pointer (some ⟨M.t 0, 0, none⟩), .int .i64 n, .int .i64 m] w fun e w' => e = .returned (.int .i64 1) ∧ w' = w := by
  have HD : Hid (DkAt w M L last N s t) := h
  have hf := M.fnd_no hm
  clear h
  go_enter Tryz.func54, Tryz.ntmps54
  go_wp2_with (first | (go_at_call 75; refine (kFind ok _ HD.out _).mono ?_; rintro e w' ⟨rfl, hw'⟩; replace hw' := hw'.symm; subst hw'))
  go_ret
  exact ⟨rfl, rfl⟩
theorem kGiveNo (ok : DOk L last) (w : World) (h : DkAt w M L last N s t) (n : Int) (q : Wn) (hq : q ∈ L) (he : childE L n ≠ 0) :
    Calls Tryz.prog 54 #[.pointer (some ⟨M.t 0, 0, none⟩), .int .i64 n, .int .i64 q.n] w fun e w' => e = .returned (.int .i64 (childE L n)) ∧ w' = w := by
  have hf := M.fnd_in hq
  have HD : Hid (DkAt w M L last N s t) := h
  have hk := kBelowNo ok w h n he
  have Hk : Hid (Calls Tryz.prog 111 #[.pointer (some ⟨M.t 0, 0, none⟩), .int .i64 n] w fun e w' => e = .returned (.tuple #[.pointer none, .int .i64 (childE L n)]) ∧ w' = w) := hk
  clear h hk
  generalize childE L n = er at *
  go_enter Tryz.func54, Tryz.ntmps54
  go_wp2_with (first | (go_at_call 75; refine (kFind ok _ HD.out _).mono ?_; rintro e w' ⟨rfl, hw'⟩; replace hw' := hw'.symm; subst hw') | (go_at_call 111; refine (Hk.out).mono ?_; rintro e w' ⟨rfl, hw'⟩; replace hw' := hw'.symm; subst hw'))
  go_ret
  exact ⟨rfl, rfl⟩
theorem kGiveLoop {rk : Int → Nat} {K : Nat} (T : Tree L rk K) (ok : DOk L last) (w : World) (h : DkAt w M L last N s t) (v q : Wn) (hv : v ∈ L) (hq : q ∈ L) (hp : v.par ≠ -1) (hns : Sub L v.n q.n) :
    Calls Tryz.prog 54 #[.pointer (some ⟨M.t 0, 0, none⟩), .int .i64 v.n, .int .i64 q.n] w fun e w' => e = .returned (.int .i64 5) ∧ w' = w := by
  have HD : Hid (DkAt w M L last N s t) := h
  have hf := M.fnd_in hq
  have Hlies : Hid (Calls Tryz.prog 117 #[M.ptr q.n, M.ptr v.n] w fun e w' => e = .returned (.bool true) ∧ w' = w) := wLies T w h q v hq hv true (by simp [hns])
  clear h
  go_enter Tryz.func54, Tryz.ntmps54
  go_wp2_with (first | (go_at_call 75; refine (kFind ok _ HD.out _).mono ?_; rintro e w' ⟨rfl, hw'⟩; replace hw' := hw'.symm; subst hw') | (go_at_call 111; refine (kBelow ok _ HD.out v hv hp).mono ?_; rintro e w' ⟨rfl, hw'⟩; replace hw' := hw'.symm; subst hw') | (go_at_call 117; refine (Hlies.out).mono ?_; rintro e w' ⟨rfl, hw'⟩; replace hw' := hw'.symm; subst hw'))
  go_ret
  exact ⟨rfl, rfl⟩
/-- What is wrong with a new window. -/
def createE (L : List Wn) (n x y W H : Int) : Int := if hasN L n = false then 1 else if placeB x y = false then 4 else if sizeB W H = false then 3 else if 16 ≤ L.length then 6 else 0
theorem kCreateNo (ok : DOk L last) (w : World) (h : DkAt w M L last N s t) (n x y W H : Int) (he : createE L n x y W H ≠ 0) :
    Calls Tryz.prog 48 #[.pointer (some ⟨M.t 0, 0, none⟩), .int .i64 n, .int .i64 x, .int .i64 y, .int .i64 W, .int .i64 H] w fun e w' => e = .returned (.tuple #[.int .i64 0, .int .i64 (createE L n x y W H)]) ∧ w' = w := by
  have c0 := h.c0
  have HD : Hid (DkAt w M L last N s t) := h
  clear h
  unfold createE at he ⊢
  by_cases h1 : hasN L n = false
  · rw [if_pos h1]
    have hf := M.fnd_no h1
    clear he
    go_enter Tryz.func48, Tryz.ntmps48
    go_wp2_with (first | (go_at_call 75; refine (kFind ok _ HD.out _).mono ?_; rintro e w' ⟨rfl, hw'⟩; replace hw' := hw'.symm; subst hw'))
    go_ret2
    exact ⟨rfl, rfl⟩
  rw [if_neg h1] at he ⊢
  obtain ⟨v, hv, rfl⟩ := hasN_iff.1 (by simpa using h1)
  have hf := M.fnd_in hv
  clear h1
  by_cases h2 : placeB x y = false
  · rw [if_pos h2]
    clear he
    go_enter Tryz.func48, Tryz.ntmps48
    go_wp2_with (first | (go_at_call 75; refine (kFind ok _ HD.out _).mono ?_; rintro e w' ⟨rfl, hw'⟩; replace hw' := hw'.symm; subst hw') | (go_at_call 76; refine (pPlace _ _ _).mono ?_; rintro e w' ⟨rfl, hw'⟩; replace hw' := hw'.symm; subst hw'))
    go_ret2
    exact ⟨rfl, rfl⟩
  rw [if_neg h2] at he ⊢
  have h2' : placeB x y = true := by simpa using h2
  clear h2
  by_cases h3 : sizeB W H = false
  · rw [if_pos h3]
    clear he
    go_enter Tryz.func48, Tryz.ntmps48
    go_wp2_with (first | (go_at_call 75; refine (kFind ok _ HD.out _).mono ?_; rintro e w' ⟨rfl, hw'⟩; replace hw' := hw'.symm; subst hw') | (go_at_call 76; refine (pPlace _ _ _).mono ?_; rintro e w' ⟨rfl, hw'⟩; replace hw' := hw'.symm; subst hw') | (go_at_call 46; refine (pMayBe _ _ _).mono ?_; rintro e w' ⟨rfl, hw'⟩; replace hw' := hw'.symm; subst hw'))
    go_ret2
    exact ⟨rfl, rfl⟩
  rw [if_neg h3] at he ⊢
  have h3' : sizeB W H = true := by simpa using h3
  clear h3
  by_cases h4 : 16 ≤ L.length
  · rw [if_pos h4]
    have hnf : decide (16 ≤ L.length) = true := by simpa using h4
    clear he h4
    go_enter Tryz.func48, Tryz.ntmps48
    go_wp2_with (first | (go_at_call 75; refine (kFind ok _ HD.out _).mono ?_; rintro e w' ⟨rfl, hw'⟩; replace hw' := hw'.symm; subst hw') | (go_at_call 76; refine (pPlace _ _ _).mono ?_; rintro e w' ⟨rfl, hw'⟩; replace hw' := hw'.symm; subst hw') | (go_at_call 46; refine (pMayBe _ _ _).mono ?_; rintro e w' ⟨rfl, hw'⟩; replace hw' := hw'.symm; subst hw') | (go_at_call 109; refine (dFull ok _ HD.out).mono ?_; rintro e w' ⟨rfl, hw'⟩; replace hw' := hw'.symm; subst hw'))
    go_ret2
    exact ⟨rfl, rfl⟩
  · rw [if_neg h4] at he; omega
end
end Go.Proofs.YtjlfibhbfdckpaaGreatDoor

/- The program's calls that fail: Write, Cell; a nil desk. -/
namespace Go.Proofs.YtjlfibhbfdckpaaGreatDoor
open Go.RowKit
attribute [local go_sem ↓] Go.wp_at_zero Go.wp_at_succ
/-- What is wrong with a text. -/
def writeE (L : List Wn) (n x y : Int) (b : ByteArray) (p : Pn) : Int := if hasN L n = false then 1 else if placeB x y = false then 4 else if 200 < b.size then 7 else if penB p = false then 8 else 0
section
variable {M : Mm} {L : List Wn} {last : Int} {N : Nat} {s : Rs} {t : Pt}
set_option maxHeartbeats 2000000 in
theorem kWriteNo (ok : DOk L last) (w : World) (h : DkAt w M L last N s t) (n x y : Int) (b : ByteArray) (p : Pn) (he : writeE L n x y b p ≠ 0) :
    Calls Tryz.prog 31 #[.pointer (some ⟨M.t 0, 0, none⟩), .int .i64 n, .int .i64 x, .int .i64 y, .string b, p.agg] w fun e w' => e = .returned (.int .i64 (writeE L n x y b p)) ∧ Below w.heap.size w w' := by
  have HD : Hid (DkAt w M L last N s t) := h
  clear h
  have hb1 : Below w.heap.size w (w.alloc (.cells #[.int .i64 p.f, .int .i64 p.b, .bool p.bo, .bool p.un, .bool p.re] 33)) := (Below.refl _ _).alloc (Nat.le_refl _) _
  have HDa : Hid (DkAt (w.alloc (.cells #[.int .i64 p.f, .int .i64 p.b, .bool p.bo, .bool p.un, .bool p.re] 33)) M L last N s t) := HD.out.below hb1
  unfold writeE at he ⊢
  by_cases h1 : hasN L n = false
  · rw [if_pos h1]
    have hf := M.fnd_no h1
    clear he
    go_enter Tryz.func31, Tryz.ntmps31
    go_wp2_with (first | (go_at_call 75; refine (kFind ok _ HDa.out _).mono ?_; rintro e w' ⟨rfl, hw'⟩; replace hw' := hw'.symm; subst hw'))
    go_ret
    exact ⟨rfl, hb1⟩
  rw [if_neg h1] at he ⊢
  obtain ⟨v, hv, rfl⟩ := hasN_iff.1 (by simpa using h1)
  have hf := M.fnd_in hv
  clear h1
  by_cases h2 : placeB x y = false
  · rw [if_pos h2]
    clear he
    go_enter Tryz.func31, Tryz.ntmps31
    go_wp2_with (first | (go_at_call 75; refine (kFind ok _ HDa.out _).mono ?_; rintro e w' ⟨rfl, hw'⟩; replace hw' := hw'.symm; subst hw') | (go_at_call 76; refine (pPlace _ _ _).mono ?_; rintro e w' ⟨rfl, hw'⟩; replace hw' := hw'.symm; subst hw'))
    go_ret
    exact ⟨rfl, hb1⟩
  rw [if_neg h2] at he ⊢
  have h2' : placeB x y = true := by simpa using h2
  clear h2
  by_cases h3 : 200 < b.size
  · rw [if_pos h3]
    have h3' : (200 : Int) < (b.size : Int) := by omega
    clear he
    go_enter Tryz.func31, Tryz.ntmps31
    go_wp2_with (first | (go_at_call 75; refine (kFind ok _ HDa.out _).mono ?_; rintro e w' ⟨rfl, hw'⟩; replace hw' := hw'.symm; subst hw') | (go_at_call 76; refine (pPlace _ _ _).mono ?_; rintro e w' ⟨rfl, hw'⟩; replace hw' := hw'.symm; subst hw'))
    go_ret
    exact ⟨rfl, hb1⟩
  rw [if_neg h3] at he ⊢
  have h3' : ¬ (200 : Int) < (b.size : Int) := by omega
  by_cases h4 : penB p = false
  · rw [if_pos h4]
    clear he
    obtain ⟨p0, p1, p2, p3, p4⟩ := pen_new w p 33
    go_enter Tryz.func31, Tryz.ntmps31
    go_wp2_with (first | (go_at_call 75; refine (kFind ok _ HDa.out _).mono ?_; rintro e w' ⟨rfl, hw'⟩; replace hw' := hw'.symm; subst hw') | (go_at_call 76; refine (pPlace _ _ _).mono ?_; rintro e w' ⟨rfl, hw'⟩; replace hw' := hw'.symm; subst hw'))
    go_at_call 77
    refine (pPen p _).mono ?_
    rw [h4]
    rintro e wb ⟨rfl, hbb⟩
    have HB : Hid (Below w.heap.size w wb) := hb1.trans (hbb.mono hb1.size)
    clear p0 p1 p2 p3 p4 hbb
    go_wp2_with fail
    go_ret
    exact ⟨rfl, HB.out⟩
  · rw [if_neg h4] at he; omega
end
section
variable (w : World) (n x y W H : Int) (b : Bool) (m : Int) (tx : ByteArray) (p : Pn)
theorem kBelowNil : Calls Tryz.prog 111 #[.pointer none, .int .i64 n] w fun e w' => e = .returned (.tuple #[.pointer none, .int .i64 1]) ∧ w' = w := by
  go_enter Tryz.func111, Tryz.ntmps111
  go_wp2_with (first | (go_at_call 75; refine (kFindNil _ _).mono ?_; rintro e w' ⟨rfl, hw'⟩; replace hw' := hw'.symm; subst hw'))
  go_ret2
  exact ⟨rfl, rfl⟩
theorem kCreateNil : Calls Tryz.prog 48 #[.pointer none, .int .i64 n, .int .i64 x, .int .i64 y, .int .i64 W, .int .i64 H] w fun e w' => e = .returned (.tuple #[.int .i64 0, .int .i64 1]) ∧ w' = w := by
  go_enter Tryz.func48, Tryz.ntmps48
  go_wp2_with (first | (go_at_call 75; refine (kFindNil _ _).mono ?_; rintro e w' ⟨rfl, hw'⟩; replace hw' := hw'.symm; subst hw'))
  go_ret2
  exact ⟨rfl, rfl⟩
theorem kShowNil : Calls Tryz.prog 53 #[.pointer none, .int .i64 n, .bool b] w fun e w' => e = .returned (.int .i64 1) ∧ w' = w := by
  go_enter Tryz.func53, Tryz.ntmps53
  go_wp2_with (first | (go_at_call 111; refine (kBelowNil _ _).mono ?_; rintro e w' ⟨rfl, hw'⟩; replace hw' := hw'.symm; subst hw'))
  go_ret
  exact ⟨rfl, rfl⟩
theorem kRaiseNil : Calls Tryz.prog 52 #[.pointer none, .int .i64 n, .bool b] w fun e w' => e = .returned (.int .i64 1) ∧ w' = w := by
  go_enter Tryz.func52, Tryz.ntmps52
  go_wp2_with (first | (go_at_call 111; refine (kBelowNil _ _).mono ?_; rintro e w' ⟨rfl, hw'⟩; replace hw' := hw'.symm; subst hw'))
  go_ret
  exact ⟨rfl, rfl⟩
theorem kDeleteNil : Calls Tryz.prog 49 #[.pointer none, .int .i64 n] w fun e w' => e = .returned (.int .i64 1) ∧ w' = w := by
  go_enter Tryz.func49, Tryz.ntmps49
  go_wp2_with (first | (go_at_call 111; refine (kBelowNil _ _).mono ?_; rintro e w' ⟨rfl, hw'⟩; replace hw' := hw'.symm; subst hw'))
  go_ret
  exact ⟨rfl, rfl⟩
theorem kMoveNil : Calls Tryz.prog 50 #[.pointer none, .int .i64 n, .int .i64 x, .int .i64 y] w fun e w' => e = .returned (.int .i64 1) ∧ w' = w := by
  go_enter Tryz.func50, Tryz.ntmps50
  go_wp2_with (first | (go_at_call 111; refine (kBelowNil _ _).mono ?_; rintro e w' ⟨rfl, hw'⟩; replace hw' := hw'.symm; subst hw'))
  go_ret
  exact ⟨rfl, rfl⟩
theorem kShapeNil : Calls Tryz.prog 51 #[.pointer none, .int .i64 n, .int .i64 x, .int .i64 y] w fun e w' => e = .returned (.int .i64 1) ∧ w' = w := by
  go_enter Tryz.func51, Tryz.ntmps51
  go_wp2_with (first | (go_at_call 111; refine (kBelowNil _ _).mono ?_; rintro e w' ⟨rfl, hw'⟩; replace hw' := hw'.symm; subst hw'))
  go_ret
  exact ⟨rfl, rfl⟩
theorem kGiveNil : Calls Tryz.prog 54 #[.pointer none, .int .i64 n, .int .i64 m] w fun e w' => e = .returned (.int .i64 1) ∧ w' = w := by
  go_enter Tryz.func54, Tryz.ntmps54
  go_wp2_with (first | (go_at_call 75; refine (kFindNil _ _).mono ?_; rintro e w' ⟨rfl, hw'⟩; replace hw' := hw'.symm; subst hw'))
  go_ret
  exact ⟨rfl, rfl⟩
theorem kWriteNil : Calls Tryz.prog 31 #[.pointer none, .int .i64 n, .int .i64 x, .int .i64 y, .string tx, p.agg] w fun e w' => e = .returned (.int .i64 1) ∧ Below w.heap.size w w' := by
  go_enter Tryz.func31, Tryz.ntmps31
  go_wp2_with (first | (go_at_call 75; refine (kFindNil _ _).mono ?_; rintro e w' ⟨rfl, hw'⟩; replace hw' := hw'.symm; subst hw'))
  go_ret
  exact ⟨rfl, (Below.refl _ _).alloc (Nat.le_refl _) _⟩
theorem kFillNil : Calls Tryz.prog 33 #[.pointer none, .int .i64 n, .int .i64 x, .int .i64 y, .int .i64 W, .int .i64 H, p.agg] w fun e w' => e = .returned (.int .i64 1) ∧ Below w.heap.size w w' := by
  go_enter Tryz.func33, Tryz.ntmps33
  go_wp2_with (first | (go_at_call 75; refine (kFindNil _ _).mono ?_; rintro e w' ⟨rfl, hw'⟩; replace hw' := hw'.symm; subst hw'))
  go_ret
  exact ⟨rfl, (Below.refl _ _).alloc (Nat.le_refl _) _⟩
theorem kScrollNil : Calls Tryz.prog 35 #[.pointer none, .int .i64 n, .int .i64 x] w fun e w' => e = .returned (.int .i64 1) ∧ w' = w := by
  go_enter Tryz.func35, Tryz.ntmps35
  go_wp2_with (first | (go_at_call 75; refine (kFindNil _ _).mono ?_; rintro e w' ⟨rfl, hw'⟩; replace hw' := hw'.symm; subst hw'))
  go_ret
  exact ⟨rfl, rfl⟩
theorem kResizeNil : Calls Tryz.prog 18 #[.pointer none, .int .i64 x, .int .i64 y] w fun e w' => e = .returned (.int .i64 1) ∧ w' = w := by
  go_enter Tryz.func18, Tryz.ntmps18
  go_wp2_with (first | (go_at_call 41; refine (kNoneNil _).mono ?_; rintro e w' ⟨rfl, hw'⟩; replace hw' := hw'.symm; subst hw'))
  go_ret
  exact ⟨rfl, rfl⟩
end
set_option maxRecDepth 100000 in
theorem kCellOff {M : Mm} {L : List Wn} {last : Int} {N : Nat} {s : Rs} {t : Pt} (w : World) (h : DkAt w M L last N s t) (r : Wn) (hr : r ∈ L) (hr0 : r.n = 0) (x y : Int) (hin : inG r.W r.H x y = false) : Calls Tryz.prog 11 #[.pointer (some ⟨M.t 0, 0, none⟩), .int .i64 x, .int .i64 y] w fun e w' => e = .returned (.tuple #[noC.agg, .int .i64 4]) ∧ Below w.heap.size w w' := by
  have HD : Hid (DkAt w M L last N s t) := h
  have c0 := h.c0
  have c0' : ∀ o, (w.alloc o).cell? ⟨M.t 0, 0, none⟩ = some (.pointer (some ⟨M.t 1, 0, none⟩)) := fun o => by rw [((Below.refl w.heap.size w).alloc (Nat.le_refl _) o).cell (p := ⟨M.t 0, 0, none⟩) (h.lt (own_top M L 0 (by omega)))]; exact c0
  clear h
  have C2 : CelAt (w.alloc (.cells noArr 38)) w.heap.size 0 noC := celBox_new w noC 38
  have F2 : ∀ o, (w.alloc (.cells noArr 38)).frozen? ⟨w.heap.size, o, none⟩ = false := frozen_of_block (heap_new w (.cells noArr 38))
  have hb0 : Below w.heap.size w (w.alloc (.cells noArr 38)) := (Below.refl _ _).alloc (Nat.le_refl _) _
  have P4 := put7_at (c := noC) C2
  have B4 : Below w.heap.size w (put7 (w.alloc (.cells noArr 38)) w.heap.size 0 noC) := ((Keep.below (fun i => i = w.heap.size) hb0).put7 w.heap.size 0 noC (fun h => rfl)).toBelow (Nat.le_refl _) (fun i hi => by omega)
  go_enter Tryz.func11, Tryz.ntmps11
  go_wp2_with (first | (go_at_call 41; refine (kNone _ (HD.out.below ((Below.refl _ _).alloc (Nat.le_refl _) _))).mono ?_; rintro e w' ⟨rfl, hw'⟩; replace hw' := hw'.symm; subst hw') | ((go_at_call 42; refine (dHas _ (HD.out.below ((Below.refl _ _).alloc (Nat.le_refl _) _)) r hr hr0 _ _).mono ?_; rintro e w' ⟨rfl, hw'⟩; replace hw' := hw'.symm; subst hw'); generalize w.alloc (.cells noArr 38) = wa at *; obtain ⟨q0, q1, q2, q3, q4, q5, q6⟩ := C2))
  change bodyPost _ _ _ _ _ (put7 wa w.heap.size 0 noC)
  generalize put7 wa w.heap.size 0 noC = w4 at *
  clear q0 q1 q2 q3 q4 q5 q6
  obtain ⟨q0, q1, q2, q3, q4, q5, q6⟩ := P4
  refine bodyPost_ret (v := .tuple #[noC.agg, .int .i64 4]) ?_ rfl ⟨rfl, B4⟩
  simp [results, Tryz.results11, go_sem, q0, q1, q2, q3, q4, q5, q6]
section
variable (w : World) (x y : Int)
set_option maxRecDepth 100000 in
theorem kCellNil : Calls Tryz.prog 11 #[.pointer none, .int .i64 x, .int .i64 y] w fun e w' => e = .returned (.tuple #[noC.agg, .int .i64 1]) ∧ Below w.heap.size w w' := by
  have C2 : CelAt (w.alloc (.cells noArr 38)) w.heap.size 0 noC := celBox_new w noC 38
  have F2 : ∀ o, (w.alloc (.cells noArr 38)).frozen? ⟨w.heap.size, o, none⟩ = false := frozen_of_block (heap_new w (.cells noArr 38))
  have hb0 : Below w.heap.size w (w.alloc (.cells noArr 38)) := (Below.refl _ _).alloc (Nat.le_refl _) _
  have P4 := put7_at (c := noC) C2
  have B4 : Below w.heap.size w (put7 (w.alloc (.cells noArr 38)) w.heap.size 0 noC) := ((Keep.below (fun i => i = w.heap.size) hb0).put7 w.heap.size 0 noC (fun h => rfl)).toBelow (Nat.le_refl _) (fun i hi => by omega)
  go_enter Tryz.func11, Tryz.ntmps11
  go_wp2_with (first | ((go_at_call 41; refine (kNoneNil _).mono ?_; rintro e w' ⟨rfl, hw'⟩; replace hw' := hw'.symm; subst hw'); generalize w.alloc (.cells noArr 38) = wa at *; obtain ⟨q0, q1, q2, q3, q4, q5, q6⟩ := C2))
  change bodyPost _ _ _ _ _ (put7 wa w.heap.size 0 noC)
  generalize put7 wa w.heap.size 0 noC = w4 at *
  clear q0 q1 q2 q3 q4 q5 q6
  obtain ⟨q0, q1, q2, q3, q4, q5, q6⟩ := P4
  refine bodyPost_ret (v := .tuple #[noC.agg, .int .i64 1]) ?_ rfl ⟨rfl, B4⟩
  simp [results, Tryz.results11, go_sem, q0, q1, q2, q3, q4, q5, q6]
end
end Go.Proofs.YtjlfibhbfdckpaaGreatDoor
