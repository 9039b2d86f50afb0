/- Texts of the proof, one behind the other: DkH, Gr6. -/
import Derived.Test.YtjlfibhbfdckpaaGreatDoorK03
import Derived.Test.YtjlfibhbfdckpaaGreatDoorK05
import Derived.Test.YtjlfibhbfdckpaaGreatDoorK17
/- The program's calls: find, which places may be, Create. -/
namespace Go.Proofs.YtjlfibhbfdckpaaGreatDoor
open Go.RowKit
attribute [local go_sem ↓] Go.wp_at_zero Go.wp_at_succ
/-- May something lie at a place? -/
def placeB (x y : Int) : Bool := Wd.inB x (-1000) 1000 && Wd.inB y (-1000) 1000
theorem placeB_iff {x y : Int} : placeB x y = true ↔ -1000 ≤ x ∧ x ≤ 1000 ∧ -1000 ≤ y ∧ y ≤ 1000 := by simp [placeB, Wd.inB, and_assoc]
/-- Is there such a window? -/
def hasN (L : List Wn) (n : Int) : Bool := L.any (fun v => decide (v.n = n))
theorem hasN_iff {L : List Wn} {n : Int} : hasN L n = true ↔ ∃ v ∈ L, v.n = n := by simp [hasN]
def Mm.fnd (M : Mm) (L : List Wn) (n : Int) : Option Addr := if hasN L n = true then some ⟨M.b n, 0, none⟩ else none
theorem Mm.fnd_in (M : Mm) {L : List Wn} {v : Wn} (hv : v ∈ L) : M.fnd L v.n = some ⟨M.b v.n, 0, none⟩ := if_pos (hasN_iff.2 ⟨v, hv, rfl⟩)
theorem Mm.fnd_no (M : Mm) {L : List Wn} {n : Int} (h : hasN L n = false) : M.fnd L n = none := if_neg (by simp [h])
theorem pPlace (x y : Int) (w : World) :
    Calls Tryz.prog 76 #[.int .i64 x, .int .i64 y] w fun e w' => e = .returned (.bool (placeB x y)) ∧ w' = w := by
  cases h1 : Wd.inB x (-1000) 1000 <;> cases h2 : Wd.inB y (-1000) 1000
  all_goals
    go_enter Tryz.func76, Tryz.ntmps76
    go_wp2_with (first | (go_at_call 107; refine (pWithin _ _ _ _).mono ?_; rintro e w' ⟨rfl, hw'⟩; replace hw' := hw'.symm; subst hw'))
    go_ret
    exact ⟨by simp [placeB, h1, h2], rfl⟩
section
variable {M : Mm} {L : List Wn} {last : Int} {N : Nat} {s : Rs} {t : Pt}
theorem dWindow (ok : DOk L last) (w : World) (h : DkAt w M L last N s t) (n : Int) :
    Calls Tryz.prog 131 #[.pointer (some ⟨M.t 1, 0, none⟩), .int .i64 n] w fun e w' => e = .returned (.pointer (M.fnd L n)) ∧ w' = w := by
  obtain ⟨rk, K, T⟩ := ok.tree
  obtain ⟨r, hr, hr0, _⟩ := T.rootIn
  have hf := wFind T n w h K r hr (by omega)
  rw [hr0] at hf
  have e : (if hasP L K 0 n = true then some (⟨M.b n, 0, none⟩ : Addr) else none) = M.fnd L n := by
    unfold Mm.fnd
    by_cases hh : hasN L n = true
    · rw [if_pos hh, if_pos ((T.hasRoot n).2 (hasN_iff.1 hh))]
    · rw [if_neg hh, if_neg (fun h' => hh (hasN_iff.2 ((T.hasRoot n).1 h')))]
  rw [e] at hf
  have Hf : Hid (Calls Tryz.prog 167 #[M.ptr 0, .int .i64 n] w fun e w' => e = .returned (.pointer (M.fnd L n)) ∧ w' = w) := hf
  have d0 := h.d0
  clear hf e h
  go_enter Tryz.func131, Tryz.ntmps131
  go_wp2_with (first | (go_at_call 167; refine (Hf.out).mono ?_; rintro e w' ⟨rfl, hw'⟩; replace hw' := hw'.symm; subst hw'))
  go_ret
  exact ⟨rfl, rfl⟩
theorem kFind (ok : DOk L last) (w : World) (h : DkAt w M L last N s t) (n : Int) :
    Calls Tryz.prog 75 #[.pointer (some ⟨M.t 0, 0, none⟩), .int .i64 n] w fun e w' => e = .returned (.pointer (M.fnd L n)) ∧ w' = w := by
  have c0 := h.c0
  have HD : Hid (DkAt w M L last N s t) := h
  clear h
  go_enter Tryz.func75, Tryz.ntmps75
  go_wp2_with (first | (go_at_call 41; refine (kNone _ HD.out).mono ?_; rintro e w' ⟨rfl, hw'⟩; replace hw' := hw'.symm; subst hw') | (go_at_call 131; refine (dWindow ok _ HD.out _).mono ?_; rintro e w' ⟨rfl, hw'⟩; replace hw' := hw'.symm; subst hw'))
  go_ret
  exact ⟨rfl, rfl⟩
theorem kFindNil (n : Int) (w : World) :
    Calls Tryz.prog 75 #[.pointer none, .int .i64 n] w fun e w' => e = .returned (.pointer none) ∧ w' = w := by
  go_enter Tryz.func75, Tryz.ntmps75
  go_wp2_with (first | (go_at_call 41; refine (kNoneNil _).mono ?_; rintro e w' ⟨rfl, hw'⟩; replace hw' := hw'.symm; subst hw'))
  go_ret
  exact ⟨rfl, rfl⟩
theorem dFull (ok : DOk L last) (w : World) (h : DkAt w M L last N s t) :
    Calls Tryz.prog 109 #[.pointer (some ⟨M.t 1, 0, none⟩)] w fun e w' => e = .returned (.bool (decide (16 ≤ L.length))) ∧ w' = w := by
  obtain ⟨rk, K, T⟩ := ok.tree
  obtain ⟨r, hr, hr0, _⟩ := T.rootIn
  have hf := wCount T w h ok.len K r hr (by omega)
  rw [hr0, T.count] at hf
  have Hf : Hid (Calls Tryz.prog 149 #[M.ptr 0] w fun e w' => e = .returned (.int .i64 (L.length : Int)) ∧ w' = w) := hf
  have d0 := h.d0
  have hl := ok.len
  clear hf h
  by_cases hc : 16 ≤ L.length
  · have hd : (16 : Int) ≤ (L.length : Int) := by omega
    go_enter Tryz.func109, Tryz.ntmps109
    go_wp2_with (first | (go_at_call 149; refine (Hf.out).mono ?_; rintro e w' ⟨rfl, hw'⟩; replace hw' := hw'.symm; subst hw'))
    go_ret
    exact ⟨by simp [hc], rfl⟩
  · have hd : ¬ (16 : Int) ≤ (L.length : Int) := by omega
    go_enter Tryz.func109, Tryz.ntmps109
    go_wp2_with (first | (go_at_call 149; refine (Hf.out).mono ?_; rintro e w' ⟨rfl, hw'⟩; replace hw' := hw'.symm; subst hw'))
    go_ret
    exact ⟨by simp [hc]; omega, rfl⟩
set_option maxHeartbeats 1000000 in
theorem kCreate (ok : DOk L last) (w : World) (h : DkAt w M L last N s t) (v : Wn) (hv : v ∈ L) (x y : Int) (W H : Nat) (w1 : 1 ≤ W) (w2 : W ≤ 40) (h1 : 1 ≤ H) (h2 : H ≤ 20) (hp : placeB x y = true) (hlen : L.length < 16) (hlast : last < 9223372036854775807) :
    Calls Tryz.prog 48 #[.pointer (some ⟨M.t 0, 0, none⟩), .int .i64 v.n, .int .i64 x, .int .i64 y, .int .i64 W, .int .i64 H] w fun e w' => ∃ M', e = .returned (.tuple #[.int .i64 (last + 1), .int .i64 0]) ∧ DkAt w' M' (L ++ [⟨last + 1, v.n, x, y, true, W, H, fun _ _ => blk Pn.plain⟩]) (last + 1) N s t ∧ M'.t = M.t ∧ Keep (M.own L) w w' ∧ ∀ i, M'.own (L ++ [⟨last + 1, v.n, x, y, true, W, H, fun _ _ => blk Pn.plain⟩]) i → M.own L i ∨ w.heap.size ≤ i := by
  have c0 := h.c0
  have HD : Hid (DkAt w M L last N s t) := h
  have hs : sizeB W H = true := sizeB_iff.2 (by omega)
  have hf := M.fnd_in hv
  have hnf : decide (16 ≤ L.length) = false := by simp; omega
  clear h
  go_enter Tryz.func48, Tryz.ntmps48
  go_wp2_with (first | (go_at_call 75; refine (kFind ok _ HD.out _).mono ?_; rintro e w' ⟨rfl, hw'⟩; replace hw' := hw'.symm; subst hw') | (go_at_call 76; refine (pPlace _ _ _).mono ?_; rintro e w' ⟨rfl, hw'⟩; replace hw' := hw'.symm; subst hw') | (go_at_call 46; refine (pMayBe _ _ _).mono ?_; rintro e w' ⟨rfl, hw'⟩; replace hw' := hw'.symm; subst hw') | (go_at_call 109; refine (dFull ok _ HD.out).mono ?_; rintro e w' ⟨rfl, hw'⟩; replace hw' := hw'.symm; subst hw'))
  go_at_call 110
  refine (dCreate ok _ HD.out v hv x y W H w1 w2 h1 h2 hlast).mono ?_
  rintro e wa ⟨M', rfl, D1, ht, K1, O1⟩
  have HD1 : Hid (DkAt wa M' (L ++ [⟨last + 1, v.n, x, y, true, W, H, fun _ _ => blk Pn.plain⟩]) (last + 1) N s t) := D1
  clear D1
  go_wp2_with fail
  go_ret2
  exact ⟨M', rfl, HD1.out, ht, K1, O1⟩
end
end Go.Proofs.YtjlfibhbfdckpaaGreatDoor

/- Texts in windows: plain mathematics. -/
namespace Go.Proofs.YtjlfibhbfdckpaaGreatDoor
open Wd (wd)
/-- The letters of a text as they are written, from a byte on. -/
def runesG (s : ByteArray) : Nat → Nat → List Int
  | 0, _ => []
  | f + 1, pos => if pos < s.size then (if wd ((Utf8.decode s pos).1 : Int) = 0 then 65533 else ((Utf8.decode s pos).1 : Int)) :: runesG s f (pos + (Utf8.decode s pos).2) else []
/-- They are written one behind the other. -/
def writeAll (W H : Nat) (y : Int) (p : Pn) : Int → List Int → (Nat → Nat → Cel) → Nat → Nat → Cel
  | _, [], G => G
  | x, r :: l, G => writeAll W H y p (x + wd r) l (writeG W H G x y r p)
theorem setG_out {W H : Nat} {G : Nat → Nat → Cel} {x y : Int} (h : inG W H x y = false) (k : Cel) : setG W H G x y k = G := by
  unfold setG; rw [if_neg (by simp [h])]
theorem inG_y {W H : Nat} {x y : Int} (hy : ¬ (0 ≤ y ∧ y < H)) : inG W H x y = false := by
  rw [Bool.eq_false_iff]; intro h; obtain ⟨_, _, a, b⟩ := inG_iff.1 h; exact hy ⟨a, b⟩
theorem writeG_out {W H : Nat} {G : Nat → Nat → Cel} {x y : Int} (hy : ¬ (0 ≤ y ∧ y < H)) (r : Int) (p : Pn) : writeG W H G x y r p = G := by
  unfold writeG
  split
  · exact setG_out (inG_y hy) _
  · rw [if_neg (by rw [inG_y hy]; simp), setG_out (inG_y hy), setG_out (inG_y hy)]
theorem writeAll_out {W H : Nat} {y : Int} (hy : ¬ (0 ≤ y ∧ y < H)) (p : Pn) (l : List Int) : ∀ (x : Int) (G : Nat → Nat → Cel), writeAll W H y p x l G = G := by
  induction l with
  | nil => intro x G; rfl
  | cons r l ih => intro x G; unfold writeAll; rw [writeG_out hy, ih]
theorem Wf.write {W H : Nat} {G : Nat → Nat → Cel} (h : Wf W H G) (x y : Int) (r : Int) (p : Pn) (hr : wd r = 1 ∨ wd r = 2) : Wf W H (writeG W H G x y r p) := by
  by_cases h1 : wd r = 1
  · unfold writeG; rw [if_pos h1]; exact h.set _ _ _ rfl h1
  · by_cases hin : inG W H x y = true ∧ inG W H (x + 1) y = true
    · obtain ⟨a, b, c, d⟩ := inG_iff.1 hin.1
      obtain ⟨a2, b2, _, _⟩ := inG_iff.1 hin.2
      obtain ⟨x, rfl⟩ := Int.eq_ofNat_of_zero_le a
      obtain ⟨y, rfl⟩ := Int.eq_ofNat_of_zero_le c
      have h2 : wd r = 2 := by omega
      exact (h.wide (by omega) r p h2).congr (writeG_two h (by omega) (by omega) r p h2).symm
    · unfold writeG; rw [if_neg h1, if_neg hin]; exact (h.setBlk _ _ _).setBlk _ _ _
theorem setG_congr {W H : Nat} {G K : Nat → Nat → Cel} (e : EqOn W H G K) (x y : Int) (k : Cel) : EqOn W H (setG W H G x y k) (setG W H K x y k) := by
  cases hin : inG W H x y with
  | false => rw [setG_out hin, setG_out hin]; exact e
  | true =>
    obtain ⟨a, b, c, d⟩ := inG_iff.1 hin
    obtain ⟨x, rfl⟩ := Int.eq_ofNat_of_zero_le a
    obtain ⟨y, rfl⟩ := Int.eq_ofNat_of_zero_le c
    intro u w hu hw
    unfold setG
    rw [if_pos hin, if_pos hin]
    simp only [Int.toNat_natCast]
    rw [← e x y (by omega) (by omega)]
    by_cases p1 : (G x y).p = 1
    · rw [if_pos p1, if_pos p1]; exact (e.upd _ _ _).upd _ _ _ u w hu hw
    · rw [if_neg p1, if_neg p1]
      by_cases p2 : (G x y).p = 2
      · rw [if_pos p2, if_pos p2]; exact (e.upd _ _ _).upd _ _ _ u w hu hw
      · rw [if_neg p2, if_neg p2]; exact e.upd _ _ _ u w hu hw
theorem writeG_congr {W H : Nat} {G K : Nat → Nat → Cel} (e : EqOn W H G K) (x y : Int) (r : Int) (p : Pn) : EqOn W H (writeG W H G x y r p) (writeG W H K x y r p) := by
  unfold writeG
  split
  · exact setG_congr e _ _ _
  · have h2 := setG_congr (setG_congr e x y (blk p)) (x + 1) y (blk p)
    split
    · exact (h2.upd _ _ _).upd _ _ _
    · exact h2
theorem writeAll_congr {W H : Nat} {y : Int} {p : Pn} : ∀ (l : List Int) (x : Int) {G K : Nat → Nat → Cel}, EqOn W H G K → EqOn W H (writeAll W H y p x l G) (writeAll W H y p x l K)
  | [], _, _, _, e => e
  | r :: l, x, _, _, e => writeAll_congr l _ (writeG_congr e x y r p)
theorem Wf.writeAll {W H : Nat} {y : Int} {p : Pn} : ∀ (l : List Int) (x : Int) {G : Nat → Nat → Cel}, Wf W H G → (∀ r ∈ l, wd r = 1 ∨ wd r = 2) → Wf W H (Go.Proofs.YtjlfibhbfdckpaaGreatDoor.writeAll W H y p x l G)
  | [], _, _, hG, _ => hG
  | r :: l, x, _, hG, hl => Wf.writeAll l _ (hG.write x y r p (hl r List.mem_cons_self)) (fun q hq => hl q (List.mem_cons_of_mem _ hq))
end Go.Proofs.YtjlfibhbfdckpaaGreatDoor
