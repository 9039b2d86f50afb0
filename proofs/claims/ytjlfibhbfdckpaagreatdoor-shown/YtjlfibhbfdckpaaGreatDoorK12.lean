/- Texts of the proof, one behind the other: DkP, DkU, DkV. -/
import Derived.Test.YtjlfibhbfdckpaaGreatDoorK11
import Derived.Lib.OthersKept
/- The program's window: put, Write. -/
namespace Go.Proofs.YtjlfibhbfdckpaaGreatDoor
open Go.RowKit Go.Lib
open Wd (wd)
attribute [local go_sem ↓] Go.wp_at_zero Go.wp_at_succ
theorem put_one {W H : Nat} {G : Nat → Nat → Cel} (h : Wf W H G) {x y : Nat} (hx : x < W) (hy : y < H) (r : Int) (p : Pn) (hr : wd r = 1) : EqOn W H (putX r p x y G) (writeG W H G x y r p) := by
  refine EqOn.trans ?_ (writeG_one h hx hy r p hr).symm
  unfold putX
  refine wr_dom h (fun a b _ _ => ?_) (fun a b _ _ hP => ?_)
  · rw [Bool.eq_iff_iff, stretch_iff, pt_iff, if_neg (by omega)]; omega
  · simp [putCel, hr]
theorem put_two {W H : Nat} {G : Nat → Nat → Cel} (h : Wf W H G) {x y : Nat} (hx : x + 1 < W) (hy : y < H) (r : Int) (p : Pn) (hr : wd r = 2) : EqOn W H (putX r p x y G) (writeG W H G x y r p) := by
  refine EqOn.trans ?_ (writeG_two h hx hy r p hr).symm
  unfold putX
  refine wr_dom h (fun a b _ _ => ?_) (fun a b _ _ hP => ?_)
  · rw [Bool.eq_iff_iff, stretch_iff, if_pos hr, pt2, Bool.or_eq_true, pt_iff, pt_iff]; omega
  · simp [putCel, hr, wide]
theorem erase_out {W H : Nat} {G : Nat → Nat → Cel} {x y : Nat} (p : Pn) (x0 x1 : Int) (h : ∀ a : Nat, a < W → ¬ (x0 ≤ a ∧ (a : Int) < x1)) : eraseX W x0 x1 y p G = G := by
  have _ := x
  have _ := H
  unfold eraseX
  refine wr_none _ _ _ (fun a b => ?_)
  rw [Bool.eq_false_iff]
  intro hc
  simp at hc
  exact h a hc.2 ⟨hc.1.1.2, hc.1.2⟩
theorem erase_one {W H : Nat} {G : Nat → Nat → Cel} (h : Wf W H G) {x y : Nat} (hx : x < W) (hy : y < H) (p : Pn) (x0 x1 : Int) (hx0 : ∀ a : Nat, a < W → ((x0 ≤ a ∧ (a : Int) < x1) ↔ a = x)) : EqOn W H (eraseX W x0 x1 y p G) (setG W H G x y (blk p)) := by
  refine EqOn.trans ?_ (setG_wr h hx hy _).symm
  unfold eraseX
  refine wr_dom h (fun a b ha _ => ?_) (fun _ _ _ _ _ => rfl)
  have := hx0 a ha
  rw [Bool.eq_iff_iff, pt_iff]
  simp
  omega
/-- What put does where not all of the letter is within the window. -/
theorem erase_write {W H : Nat} {G : Nat → Nat → Cel} (h : Wf W H G) (x : Int) {y : Nat} (hy : y < H) (r : Int) (p : Pn) (hr : wd r = 1 ∨ wd r = 2) (hn : ¬ (inG W H x y = true ∧ inG W H (x + wd r - 1) y = true)) : EqOn W H (eraseX W x (x + wd r) y p G) (writeG W H G x y r p) := by
  rcases hr with hr | hr
  · rw [hr] at hn ⊢
    have hno : inG W H x y = false := by
      rw [Bool.eq_false_iff]; intro hi
      refine hn ⟨hi, ?_⟩
      rw [show x + 1 - 1 = x by omega]; exact hi
    have ho : ¬ (0 ≤ x ∧ x < W) := fun hc => by rw [inG_iff.2 (by omega)] at hno; cases hno
    rw [erase_out (H := H) (x := 0) p _ _ (fun a ha hc => ho (by omega))]
    unfold writeG
    rw [if_pos hr, setG_out hno]
    exact fun _ _ _ _ => rfl
  · rw [hr] at hn ⊢
    have hno : ¬ (inG W H x y = true ∧ inG W H (x + 1) y = true) := by rw [show x + 2 - 1 = x + 1 by omega] at hn; exact hn
    unfold writeG
    rw [if_neg (by omega), if_neg hno]
    by_cases h1 : 0 ≤ x ∧ x < W
    · obtain ⟨k, rfl⟩ := Int.eq_ofNat_of_zero_le h1.1
      have h2 : inG W H ((k : Int) + 1) y = false := by
        rw [Bool.eq_false_iff]; intro hi; exact hno ⟨inG_iff.2 (by omega), hi⟩
      have h3 : ¬ (k : Int) + 1 < W := fun hc => by rw [inG_iff.2 (by omega)] at h2; cases h2
      rw [setG_out h2]
      exact erase_one h (by omega) hy p _ _ (fun a ha => by omega)
    · have h0 : inG W H x y = false := by rw [Bool.eq_false_iff]; intro hi; obtain ⟨a, b, _, _⟩ := inG_iff.1 hi; exact h1 ⟨a, b⟩
      rw [setG_out h0]
      by_cases h2 : 0 ≤ x + 1 ∧ x + 1 < W
      · obtain ⟨k, hk⟩ := Int.eq_ofNat_of_zero_le h2.1
        rw [hk]
        exact erase_one h (by omega) hy p _ _ (fun a ha => by omega)
      · have h4 : inG W H (x + 1) y = false := by rw [Bool.eq_false_iff]; intro hi; obtain ⟨a, b, _, _⟩ := inG_iff.1 hi; exact h2 ⟨a, b⟩
        rw [setG_out h4, erase_out (H := H) (x := 0) p _ _ (fun a ha hc => by omega)]
        exact fun _ _ _ _ => rfl
set_option maxHeartbeats 600000 in
theorem wPut (v : Wn) (bn cn gn : Nat) (pp : Option Addr) (sv : Value) (ks : List Value) (x : Int) (y : Nat) (r : Int) (p : Pn) (w : World) (h : WinV w v bn cn gn pp sv ks) (hy : y < v.H) (hr : wd r = 1 ∨ wd r = 2) (hx : -10000 ≤ x ∧ x ≤ 10000) :
    Calls Tryz.prog 133 #[.pointer (some ⟨bn, 0, none⟩), .int .i64 x, .int .i64 y, .int .i32 r, .int .i64 (wd r), p.agg] w fun e w' => e = .returned (.tuple #[]) ∧ GrAt w' cn gn v.W v.H (v.H * v.W) (writeG v.W v.H v.G x y r p) ∧ Keep (fun i => i = gn) w w' := by
  have HV : Hid (WinV w v bn cn gn pp sv ks) := h
  have f5 := h.f5
  have hbl := h.lt
  have hgl := h.gr.glt
  obtain ⟨sz, hsz⟩ : ∃ sz, wd r = sz := ⟨_, rfl⟩
  have hs12 : sz = 1 ∨ sz = 2 := by omega
  rw [hsz]
  have Hsz : Hid (wd r = sz) := hsz
  clear h hsz
  go_enter Tryz.func133, Tryz.ntmps133
  go_wp2_with (first | (go_at_call 103; fail))
  have hb1 : Below w.heap.size w (w.alloc (.cells #[.int .i64 p.f, .int .i64 p.b, .bool p.bo, .bool p.un, .bool p.re] 33)) := (Below.refl _ _).alloc (Nat.le_refl _) _
  have P1 := pen_new w p 33
  have s1 : w.heap.size < (w.alloc (.cells #[.int .i64 p.f, .int .i64 p.b, .bool p.bo, .bool p.un, .bool p.re] 33)).heap.size := by simp
  generalize w.alloc (.cells #[.int .i64 p.f, .int .i64 p.b, .bool p.bo, .bool p.un, .bool p.re] 33) = wa at *
  have f5a := (hb1.cell (p := ⟨bn, 5, none⟩) hbl).trans f5
  have HG : Hid (GrAt wa cn gn v.W v.H (v.H * v.W) v.G) := HV.out.gr.below hb1
  have Hwf : Hid (Wf v.W v.H v.G) := HV.out.wf
  obtain ⟨p0, p1, p2, p3, p4⟩ := P1
  have K1 : Keep (fun i => i = gn) w wa := Keep.below _ hb1
  clear f5 hb1 HV
  by_cases hin : inG v.W v.H x y = true ∧ inG v.W v.H (x + sz - 1) y = true
  · obtain ⟨hi1, hi2⟩ := hin
    obtain ⟨a1, a2, _, _⟩ := inG_iff.1 hi1
    obtain ⟨b1, b2, _, _⟩ := inG_iff.1 hi2
    obtain ⟨k, rfl⟩ := Int.eq_ofNat_of_zero_le a1
    have Hput : Hid (Calls Tryz.prog 168 #[.pointer (some ⟨cn, 0, none⟩), .int .i64 k, .int .i64 y, .int .i32 r, p.agg] wa.drew fun e w' => e = .returned (.tuple #[]) ∧ GrAt w' cn gn v.W v.H (v.H * v.W) (writeG v.W v.H v.G k y r p) ∧ Keep (fun i => i = gn) wa w') := by
      have hd := HG.out
      have hd' : GrAt wa.drew cn gn v.W v.H (v.H * v.W) v.G := hd.same rfl rfl
      have hs := Hsz.out
      rcases hr with h1 | h2
      · refine (pPut1 cn gn v.W v.H _ v.G k y r p _ hd' Hwf.out hy h1 (by omega)).mono ?_
        rintro e w' ⟨rfl, q, kk⟩
        exact ⟨rfl, q.congr (put_one Hwf.out (by omega) hy r p h1), ⟨kk.os, kk.tape, kk.output, kk.size, kk.block⟩⟩
      · refine (pPut2 cn gn v.W v.H _ v.G k y r p _ hd' Hwf.out hy h2 (by omega)).mono ?_
        rintro e w' ⟨rfl, q, kk⟩
        exact ⟨rfl, q.congr (put_two Hwf.out (by omega) hy r p h2), ⟨kk.os, kk.tape, kk.output, kk.size, kk.block⟩⟩
    clear a1 a2 b1 b2
    go_wp2_with (first | (go_at_call 103; refine (pHas _ _ _ _ _ _ _ _ _ HG.out).mono ?_; rintro e w' ⟨rfl, hw'⟩; replace hw' := hw'.symm; subst hw'))
    go_region_with (first | (go_at_call 168; refine Hput.out.mono ?_; rintro e wb ⟨rfl, G2, K2⟩; have HG2 : Hid (GrAt wb cn gn v.W v.H (v.H * v.W) (writeG v.W v.H v.G k y r p)) := G2; clear G2))
    all_goals
      go_wp2_with fail
      refine bodyPost_ret (results_none rfl _ _ _) rfl ⟨rfl, HG2.out, K1.trans K2 (fun _ _ h => h)⟩
  · have hwx : IntKind.i64.wrap (x + sz) = x + sz := wrap_id _ (by omega) (by omega)
    have Herase : Hid (Calls Tryz.prog 140 #[.pointer (some ⟨cn, 0, none⟩), .int .i64 x, .int .i64 (x + sz), .int .i64 y, p.agg] wa.drew fun e w' => e = .returned (.tuple #[]) ∧ GrAt w' cn gn v.W v.H (v.H * v.W) (writeG v.W v.H v.G x y r p) ∧ Keep (fun i => i = gn) wa w') := by
      have hd' : GrAt wa.drew cn gn v.W v.H (v.H * v.W) v.G := HG.out.same rfl rfl
      have hs := Hsz.out
      subst hs
      refine (pErase cn gn v.W v.H _ v.G x (x + wd r) y p _ hd' Hwf.out hy).mono ?_
      rintro e w' ⟨rfl, q, kk⟩
      exact ⟨rfl, q.congr (erase_write Hwf.out x hy r p hr hin), ⟨kk.os, kk.tape, kk.output, kk.size, kk.block⟩⟩
    cases hi1 : inG v.W v.H x y with
    | false =>
      clear hin
      go_wp2_with (first | (go_at_call 103; refine (pHas _ _ _ _ _ _ _ _ _ HG.out).mono ?_; rintro e w' ⟨rfl, hw'⟩; replace hw' := hw'.symm; subst hw'))
      go_region_with (first | (go_at_call 140; refine Herase.out.mono ?_; rintro e wb ⟨rfl, G2, K2⟩; have HG2 : Hid (GrAt wb cn gn v.W v.H (v.H * v.W) (writeG v.W v.H v.G x y r p)) := G2; clear G2))
      all_goals
        go_wp2_with fail
        go_end0
        exact ⟨rfl, HG2.out, K1.trans K2 (fun _ _ h => h)⟩
    | true =>
      have hi2 : inG v.W v.H (x + sz - 1) y = false := by rw [Bool.eq_false_iff]; exact fun h => hin ⟨hi1, h⟩
      clear hin
      go_wp2_with (first | (go_at_call 103; refine (pHas _ _ _ _ _ _ _ _ _ HG.out).mono ?_; rintro e w' ⟨rfl, hw'⟩; replace hw' := hw'.symm; subst hw'))
      go_region_with (first | (go_at_call 140; refine Herase.out.mono ?_; rintro e wb ⟨rfl, G2, K2⟩; have HG2 : Hid (GrAt wb cn gn v.W v.H (v.H * v.W) (writeG v.W v.H v.G x y r p)) := G2; clear G2))
      all_goals
        go_wp2_with fail
        go_end0
        exact ⟨rfl, HG2.out, K1.trans K2 (fun _ _ h => h)⟩
theorem wLine (v : Wn) (bn cn gn : Nat) (pp : Option Addr) (sv : Value) (ks : List Value) (y : Int) (w : World) (h : WinV w v bn cn gn pp sv ks) :
    Calls Tryz.prog 132 #[.pointer (some ⟨bn, 0, none⟩), .int .i64 y] w fun e w' => e = .returned (.bool (inG v.W v.H 0 y)) ∧ w' = w := by
  have f5 := h.f5
  have HG : Hid (GrAt w cn gn v.W v.H (v.H * v.W) v.G) := h.gr
  clear h
  go_enter Tryz.func132, Tryz.ntmps132
  go_wp2_with (first | (go_at_call 103; refine (pHas _ _ _ _ _ _ _ _ _ HG.out).mono ?_; rintro e w' ⟨rfl, hw'⟩; replace hw' := hw'.symm; subst hw'))
  go_ret
  exact ⟨rfl, rfl⟩
theorem width_pos (s : ByteArray) (pos : Nat) (h : pos < s.size) : 1 ≤ (Utf8.decode s pos).2 := by
  by_cases ha : (s[pos]'h).toNat < 128
  · rw [decode_ascii s pos h ha]; exact Nat.le_refl _
  · exact (decode_high s pos h (by omega)).2
theorem decode_four (s : ByteArray) (pos : Nat) : (Utf8.decode s pos).2 ≤ 4 := by
  simp only [Utf8.decode]
  repeat' split
  all_goals simp_all
theorem wd_12 (r : Int) : wd r = 0 ∨ wd r = 1 ∨ wd r = 2 := by
  unfold wd; repeat' split
  all_goals simp
theorem runesG_cons (s : ByteArray) (f : Nat) {pos : Nat} (h : pos < s.size) : runesG s (f + 1) pos = (if wd ((Utf8.decode s pos).1 : Int) = 0 then 65533 else ((Utf8.decode s pos).1 : Int)) :: runesG s f (pos + (Utf8.decode s pos).2) := by
  show (if pos < s.size then _ else _) = _
  rw [if_pos h]
theorem runesG_ok (s : ByteArray) : ∀ (f pos : Nat), ∀ r ∈ runesG s f pos, wd r = 1 ∨ wd r = 2 := by
  intro f
  induction f with
  | zero => intro pos r hr; simp [runesG] at hr
  | succ f ih =>
    intro pos r hr
    unfold runesG at hr
    split at hr
    · rcases List.mem_cons.1 hr with e | hr
      · split at e
        · rw [e]; exact .inl (by decide)
        · rw [e]; have := wd_12 ((Utf8.decode s pos).1 : Int); omega
      · exact ih _ r hr
    · simp at hr
theorem Keep.iter {F : Nat → Prop} {a b : World} (h : Keep F a b) (k : Nat) (s : ByteArray) (pos : Nat) (hk : a.heap.size ≤ k) : Keep F a (b.iterAt k s pos) :=
  ⟨h.os, h.tape, h.output, by rw [iterAt_size]; exact h.size, fun i hi hF => (iterAt_other b k i s pos (by omega)).trans (h.block i hi hF)⟩
set_option maxHeartbeats 2000000 in
theorem wWrite (v : Wn) (bn cn gn : Nat) (pp : Option Addr) (sv : Value) (ks : List Value) (x y : Int) (s : ByteArray) (p : Pn) (w : World) (h : WinV w v bn cn gn pp sv ks) (hbg : bn ≠ gn) (hsg : sv.ownBlock ≠ some gn) (hx : -1000 ≤ x ∧ x ≤ 1000) (hs : s.size ≤ 200) :
    Calls Tryz.prog 78 #[.pointer (some ⟨bn, 0, none⟩), .int .i64 x, .int .i64 y, .string s, p.agg] w fun e w' => e = .returned (.tuple #[]) ∧ GrAt w' cn gn v.W v.H (v.H * v.W) (writeAll v.W v.H y p x (runesG s s.size 0) v.G) ∧ Keep (fun i => i = gn) w w' := by
  have HV : Hid (WinV w v bn cn gn pp sv ks) := h
  have hbl := h.lt
  have hgl := h.gr.glt
  have hw1 := h.gr.w1
  clear h
  by_cases hy : 0 ≤ y ∧ y < v.H
  · obtain ⟨y, rfl⟩ := Int.eq_ofNat_of_zero_le hy.1
    have hyH : y < v.H := by omega
    have hin : inG v.W v.H 0 y = true := inG_iff.2 (by omega)
    clear hy
    go_enter Tryz.func78, Tryz.ntmps78
    go_wp2_with (first | (go_at_call 132; fail))
    have hb1 : Below w.heap.size w (w.alloc (.cells #[.int .i64 p.f, .int .i64 p.b, .bool p.bo, .bool p.un, .bool p.re] 33)) := (Below.refl _ _).alloc (Nat.le_refl _) _
    have P1 := pen_new w p 33
    have s1 : (w.alloc (.cells #[.int .i64 p.f, .int .i64 p.b, .bool p.bo, .bool p.un, .bool p.re] 33)).heap.size = w.heap.size + 1 := by simp
    generalize w.alloc (.cells #[.int .i64 p.f, .int .i64 p.b, .bool p.bo, .bool p.un, .bool p.re] 33) = wa at *
    have Hs1 : Hid (wa.heap.size = w.heap.size + 1) := s1
    clear s1
    have HVa : Hid (WinV wa v bn cn gn pp sv ks) := HV.out.same (hb1.block _ hbl) (hb1.block _ HV.out.gr.lt) (hb1.block _ hgl) (fun i hi => hb1.block _ (ownsRow_lt HV.out.row hi).1)
    go_wp2_with (first | (go_at_call 132; refine (wLine v bn cn gn pp sv ks _ _ HVa.out).mono ?_; rintro e w' ⟨rfl, hw'⟩; replace hw' := hw'.symm; subst hw'))
    have hbi : Below wa.heap.size wa (wa.iter s 0) := (Below.refl _ _).alloc (Nat.le_refl _) _
    have hit0 : (wa.iter s 0).heap[wa.heap.size]? = some (.stringIter s 0) := heap_new wa _
    go_loopw [1] (fun sx wr => ∃ (pos f : Nat) (xx : Int) (G : Nat → Nat → Cel), sx = .int .i64 xx ∧ wr.heap[wa.heap.size]? = some (.stringIter s pos) ∧ PenAt wr w.heap.size 0 p ∧ WinV wr { v with G := G } bn cn gn pp sv ks ∧ EqOn v.W v.H (writeAll v.W v.H y p xx (runesG s f pos) G) (writeAll v.W v.H y p x (runesG s s.size 0) v.G) ∧ s.size ≤ pos + f ∧ pos ≤ s.size + 8 ∧ -1000 ≤ xx ∧ xx ≤ 1000 + 2 * pos ∧ Keep (fun i => i = gn) w wr) (fun _ wr => s.size - wr.iterPos wa.heap.size)
    case atStart => exact ⟨0, s.size, x, v.G, rfl, hit0, P1.same (hbi.block _ (by have := Hs1.out; omega)), HVa.out.same (hbi.block _ HVa.out.lt) (hbi.block _ HVa.out.gr.lt) (hbi.block _ HVa.out.gr.glt) (fun i hi => hbi.block _ (ownsRow_lt HVa.out.row hi).1), fun _ _ _ _ => rfl, by omega, by omega, by omega, by omega, (Keep.below _ hb1).thenBelow hbi⟩
    case round =>
      obtain ⟨pos, f, xx, G, rfl, hI, hP, hV, hE, hf, hp8, hx1, hx2, hK⟩ := hrel
      have HVr : Hid (WinV wr { v with G := G } bn cn gn pp sv ks) := hV
      have HKr : Hid (Keep (fun i => i = gn) w wr) := hK
      have HEr : Hid (EqOn v.W v.H (writeAll v.W v.H y p xx (runesG s f pos) G) (writeAll v.W v.H y p x (runesG s s.size 0) v.G)) := hE
      have hpo := iterPos_of hI
      by_cases hlt : pos < s.size
      · have hnx : ∀ ty, (Instr.next (.pointer (some ⟨wa.heap.size, 0, none⟩)) true ty).run Tryz.prog wr = _ := fun ty => run_next_any_at wr wa.heap.size s pos ty hI hlt
        have hwd := width_pos s pos hlt
        obtain ⟨f, rfl⟩ : ∃ f', f = f' + 1 := ⟨f - 1, by omega⟩
        have hdl := decode_le s pos
        have hd4 := decode_four s pos
        have HEr2 : Hid (EqOn v.W v.H (writeAll v.W v.H y p xx ((if wd ((Utf8.decode s pos).1 : Int) = 0 then 65533 else ((Utf8.decode s pos).1 : Int)) :: runesG s f (pos + (Utf8.decode s pos).2)) G) (writeAll v.W v.H y p x (runesG s s.size 0) v.G)) := by
          have := HEr.out
          rw [runesG_cons s f hlt] at this
          exact this
        have HI : Hid (wr.heap[wa.heap.size]? = some (.stringIter s pos)) := hI
        clear hV hK hE HEr hI
        generalize hd1 : (Utf8.decode s pos).1 = d1 at *
        generalize hd2 : (Utf8.decode s pos).2 = d2 at *
        clear hd1 hd2
        have hIt := iterAt_heap wr wa.heap.size s pos (pos + d2) HI.out
        have hOt : ∀ i, i < wa.heap.size → (wr.iterAt wa.heap.size s (pos + d2)).heap[i]? = wr.heap[i]? := fun i hi => iterAt_other wr wa.heap.size i s (pos + d2) (by omega)
        have Pn1 := hP.same (hOt _ (by have := Hs1.out; omega))
        have HVn : Hid (WinV (wr.iterAt wa.heap.size s (pos + d2)) { v with G := G } bn cn gn pp sv ks) := HVr.out.same (hOt _ (by have := Hs1.out; omega)) (hOt _ (by have := Hs1.out; have := HV.out.gr.lt; omega)) (hOt _ (by have := Hs1.out; omega)) (fun i hi => hOt _ (by have := Hs1.out; have := (ownsRow_lt HV.out.row hi).1; omega))
        have HKn : Hid (Keep (fun i => i = gn) w (wr.iterAt wa.heap.size s (pos + d2))) := HKr.out.iter _ _ _ (by have := Hs1.out; omega)
        generalize wr.iterAt wa.heap.size s (pos + d2) = wn at *
        clear hP HVr HKr HI hOt
        have step : ∀ (r : Int), r = (if wd (d1 : Int) = 0 then 65533 else (d1 : Int)) → (wd r = 1 ∨ wd r = 2) → Hid (Calls Tryz.prog 133 #[.pointer (some ⟨bn, 0, none⟩), .int .i64 xx, .int .i64 y, .int .i32 r, .int .i64 (wd r), p.agg] wn fun e w' => e = .returned (.tuple #[]) ∧ w'.heap[wa.heap.size]? = some (.stringIter s (pos + d2)) ∧ PenAt w' w.heap.size 0 p ∧ WinV w' { v with G := writeG v.W v.H G xx y r p } bn cn gn pp sv ks ∧ EqOn v.W v.H (writeAll v.W v.H y p (xx + wd r) (runesG s f (pos + d2)) (writeG v.W v.H G xx y r p)) (writeAll v.W v.H y p x (runesG s s.size 0) v.G) ∧ Keep (fun i => i = gn) w w') := by
          intro r hr hr12
          refine (wPut { v with G := G } bn cn gn pp sv ks xx y r p wn HVn.out hyH hr12 (by omega)).mono ?_
          rintro e w' ⟨rfl, G2, K2⟩
          have hs1 := Hs1.out
          have hln := (Array.getElem?_eq_some_iff.1 hIt).1
          refine ⟨rfl, (K2.block _ hln (by omega)).trans hIt, Pn1.same (K2.block _ (by omega) (by omega)), ?_, ?_, HKn.out.trans K2 (fun _ _ h => h)⟩
          · exact ⟨(K2.block _ HVn.out.lt hbg).trans HVn.out.blk, G2, HVn.out.wf.write _ _ _ _ hr12, ownsRow_same HVn.out.row (fun i hi => K2.block _ (ownsRow_lt HVn.out.row hi).1 (fun e => hsg (by rw [← e]; exact hi)))⟩
          · have := HEr2.out
            rw [← hr] at this
            exact this
        have fin : ∀ (r : Int) (w' : World), (wd r = 1 ∨ wd r = 2) → w'.heap[wa.heap.size]? = some (.stringIter s (pos + d2)) → PenAt w' w.heap.size 0 p → WinV w' { v with G := writeG v.W v.H G xx y r p } bn cn gn pp sv ks → EqOn v.W v.H (writeAll v.W v.H y p (xx + wd r) (runesG s f (pos + d2)) (writeG v.W v.H G xx y r p)) (writeAll v.W v.H y p x (runesG s s.size 0) v.G) → Keep (fun i => i = gn) w w' →
            Hid ((∃ (pos f : Nat) (xx' : Int) (G : Nat → Nat → Cel), Value.int .i64 (xx + wd r) = .int .i64 xx' ∧ w'.heap[wa.heap.size]? = some (.stringIter s pos) ∧ PenAt w' w.heap.size 0 p ∧ WinV w' { v with G := G } bn cn gn pp sv ks ∧ EqOn v.W v.H (writeAll v.W v.H y p xx' (runesG s f pos) G) (writeAll v.W v.H y p x (runesG s s.size 0) v.G) ∧ s.size ≤ pos + f ∧ pos ≤ s.size + 8 ∧ -1000 ≤ xx' ∧ xx' ≤ 1000 + 2 * pos ∧ Keep (fun i => i = gn) w w') ∧ s.size - w'.iterPos wa.heap.size < s.size - wr.iterPos wa.heap.size) := by
          intro r w' hr12 h1 h2 h3 h4 h5
          refine ⟨⟨pos + d2, f, xx + wd r, _, rfl, h1, h2, h3, h4, by omega, by omega, by omega, by omega, h5⟩, ?_⟩
          rw [iterPos_of h1, hpo]
          omega
        by_cases hz : wd (d1 : Int) = 0
        · have h65 : wd 65533 = 1 := by decide
          have st := step 65533 (by rw [if_pos hz]) (by omega)
          have fi := fin 65533
          rw [h65] at st fi
          clear step fin
          have Hfi : Hid _ := fi
          clear fi HEr2
          go_wp2_with fail
          go_at_call 129
          refine (Wd.lettersWidth _ _).mono ?_
          rintro e w2 ⟨rfl, hw2⟩
          replace hw2 := hw2.symm
          subst hw2
          obtain ⟨p0, p1, p2, p3, p4⟩ := Pn1
          go_wp2_with fail
          go_at_call 133
          refine st.out.mono ?_
          rintro e w3 ⟨rfl, q1, q2, q3, q4, q5⟩
          have Hend := Hfi.out w3 (.inl trivial) q1 q2 q3 q4 q5
          clear Hfi st q1 q2 q3 q4 q5
          go_wp2_with fail
          exact Hend.out
        · have hr12 : wd (d1 : Int) = 1 ∨ wd (d1 : Int) = 2 := by have := wd_12 (d1 : Int); omega
          have st := step (d1 : Int) (by rw [if_neg hz]) hr12
          have fi := fin (d1 : Int)
          have Hr12 : Hid (wd (d1 : Int) = 1 ∨ wd (d1 : Int) = 2) := hr12
          clear step fin
          obtain ⟨sz, hsz⟩ : ∃ sz, wd (d1 : Int) = sz := ⟨_, rfl⟩
          have Hsz : Hid (wd (d1 : Int) = sz) := hsz
          rw [hsz] at st fi hz hr12
          clear hsz
          have Hfi : Hid _ := fi
          clear fi HEr2
          go_wp2_with fail
          go_at_call 129
          refine (Wd.lettersWidth _ _).mono ?_
          rw [Hsz.out]
          rintro e w2 ⟨rfl, hw2⟩
          replace hw2 := hw2.symm
          subst hw2
          obtain ⟨p0, p1, p2, p3, p4⟩ := Pn1
          go_wp2_with fail
          go_at_call 133
          refine st.out.mono ?_
          rintro e w3 ⟨rfl, q1, q2, q3, q4, q5⟩
          have Hend := Hfi.out w3 (by omega) q1 q2 q3 q4 q5
          clear Hfi st q1 q2 q3 q4 q5
          go_wp2_with fail
          exact Hend.out
      · have hnx : ∀ ty, (Instr.next (.pointer (some ⟨wa.heap.size, 0, none⟩)) true ty).run Tryz.prog wr = _ := fun ty => run_next_end_at wr wa.heap.size s pos ty hI hlt
        have hrn : Hid (runesG s f pos = []) := by
          show runesG s f pos = []
          cases f with
          | zero => rfl
          | succ f => simp [runesG, hlt]
        clear hV hK hE
        go_wp2_with fail
        go_end0
        refine ⟨rfl, HVr.out.gr.congr ?_, HKr.out⟩
        have := HEr.out
        rw [hrn.out] at this
        exact this
  · have hin : inG v.W v.H 0 y = false := inG_y hy
    rw [writeAll_out hy]
    go_enter Tryz.func78, Tryz.ntmps78
    go_wp2_with (first | (go_at_call 132; fail))
    have hb1 : Below w.heap.size w (w.alloc (.cells #[.int .i64 p.f, .int .i64 p.b, .bool p.bo, .bool p.un, .bool p.re] 33)) := (Below.refl _ _).alloc (Nat.le_refl _) _
    generalize w.alloc (.cells #[.int .i64 p.f, .int .i64 p.b, .bool p.bo, .bool p.un, .bool p.re] 33) = wa at *
    have HVa : Hid (WinV wa v bn cn gn pp sv ks) := HV.out.same (hb1.block _ hbl) (hb1.block _ HV.out.gr.lt) (hb1.block _ hgl) (fun i hi => hb1.block _ (ownsRow_lt HV.out.row hi).1)
    go_wp2_with (first | (go_at_call 132; refine (wLine v bn cn gn pp sv ks _ _ HVa.out).mono ?_; rintro e w' ⟨rfl, hw'⟩; replace hw' := hw'.symm; subst hw'))
    refine bodyPost_ret (results_none rfl _ _ _) rfl ⟨rfl, HVa.out.gr, Keep.below _ hb1⟩
end Go.Proofs.YtjlfibhbfdckpaaGreatDoor

/- A window is changed where it lies: plain, and in memory. Show, Move, Write. -/
namespace Go.Proofs.YtjlfibhbfdckpaaGreatDoor
open Go.RowKit
open Wd (wd)
attribute [local go_sem ↓] Go.wp_at_zero Go.wp_at_succ
def updL (L : List Wn) (n : Int) (f : Wn → Wn) : List Wn := L.map (fun u => if u.n = n then f u else u)
section
variable {L : List Wn} {n : Int} {f : Wn → Wn}
theorem updL_nums (hn : ∀ u ∈ L, u.n = n → (f u).n = n) : (updL L n f).map Wn.n = L.map Wn.n := by
  unfold updL
  rw [List.map_map]
  refine List.map_congr_left fun u hu => ?_
  simp only [Function.comp]
  split
  · rename_i e; rw [hn u hu e, e]
  · rfl
theorem kids_updL (hp : ∀ u ∈ L, u.n = n → (f u).par = u.par) (m : Int) : kids (updL L n f) m = (kids L m).map (fun u => if u.n = n then f u else u) := by
  induction L with
  | nil => rfl
  | cons a t ih =>
    have ih' := ih (fun u hu => hp u (List.mem_cons_of_mem _ hu))
    have ha : (if a.n = n then f a else a).par = a.par := by
      split
      · exact hp a List.mem_cons_self ‹_›
      · rfl
    unfold kids updL at ih' ⊢
    rw [List.map_cons]
    by_cases hc : a.par = m
    · rw [List.filter_cons_of_pos (by simpa [ha] using hc), List.filter_cons_of_pos (by simpa using hc), List.map_cons, ih']
    · rw [List.filter_cons_of_neg (by simpa [ha] using hc), List.filter_cons_of_neg (by simpa using hc), ih']
theorem mem_updL {v : Wn} (hv : v ∈ L) (hv' : v.n = n) (u : Wn) (hu : u ∈ updL L n f) (nd : (L.map Wn.n).Nodup) : u = f v ∨ (u ∈ L ∧ u.n ≠ n) := by
  obtain ⟨a, ha, e⟩ := List.mem_map.1 hu
  split at e
  · rename_i h1
    obtain rfl := nd_inj nd ha hv (h1.trans hv'.symm)
    exact .inl e.symm
  · rename_i h1; exact .inr (e ▸ ⟨ha, h1⟩)
theorem ok_updL {last : Int} (ok : DOk L last) (hn : ∀ u ∈ L, u.n = n → (f u).n = n) (hp : ∀ u ∈ L, u.n = n → (f u).par = u.par) (hx : ∀ u ∈ L, u.n = n → -1000 ≤ (f u).x ∧ (f u).x ≤ 1000 ∧ -1000 ≤ (f u).y ∧ (f u).y ≤ 1000) : DOk (updL L n f) last := by
  obtain ⟨rk, K, T⟩ := ok.tree
  have hin : ∀ u ∈ updL L n f, ∃ a ∈ L, u.n = a.n ∧ u.par = a.par ∧ (u = a ∨ (a.n = n ∧ u = f a)) := by
    intro u hu
    obtain ⟨a, ha, e⟩ := List.mem_map.1 hu
    split at e
    · rename_i h1; exact ⟨a, ha, by rw [← e, hn a ha h1, h1], by rw [← e, hp a ha h1], .inr ⟨h1, e.symm⟩⟩
    · exact ⟨a, ha, by rw [e], by rw [e], .inl e.symm⟩
  have hout : ∀ a ∈ L, ∃ u ∈ updL L n f, u.n = a.n := by
    intro a ha
    refine ⟨_, List.mem_map.2 ⟨a, ha, rfl⟩, ?_⟩
    split
    · rename_i h1; rw [hn a ha h1, h1]
    · rfl
  refine ⟨⟨rk, K, ?_, ?_, ?_, ?_⟩, ?_, ?_, ?_⟩
  · obtain ⟨r, t, rfl, h0, h1, h2⟩ := T.head
    refine ⟨if r.n = n then f r else r, updL t n f, rfl, ?_, ?_, ?_⟩
    · split
      · rename_i e; rw [hn r List.mem_cons_self e, ← e]; exact h0
      · exact h0
    · split
      · rename_i e; rw [hp r List.mem_cons_self e]; exact h1
      · exact h1
    · intro u hu
      obtain ⟨a, ha, e⟩ := List.mem_map.1 hu
      have := h2 a ha
      split at e
      · rename_i h1; rw [← e, hn a (List.mem_cons_of_mem _ ha) h1, hp a (List.mem_cons_of_mem _ ha) h1]; omega
      · rw [← e]; exact this
  · rw [updL_nums hn]; exact T.nd
  · intro u hu hpos
    obtain ⟨a, ha, e1, e2, _⟩ := hin u hu
    rw [e2] at hpos ⊢
    rw [e1]
    obtain ⟨⟨b, hb, hbn⟩, hr⟩ := T.up a ha hpos
    obtain ⟨c, hc, hcn⟩ := hout b hb
    exact ⟨⟨c, hc, hcn.trans hbn⟩, hr⟩
  · intro u hu
    obtain ⟨a, ha, e1, _⟩ := hin u hu
    rw [e1]; exact T.le a ha
  · intro u hu
    obtain ⟨a, ha, e1, _⟩ := hin u hu
    rw [e1]; exact ok.le a ha
  · unfold updL; rw [List.length_map]; exact ok.len
  · intro u hu
    obtain ⟨a, ha, _, _, rfl | ⟨h1, rfl⟩⟩ := hin u hu
    · exact ok.pl _ ha
    · exact hx a ha h1
end
theorem DkAt.upd {w w' : World} {M : Mm} {L : List Wn} {last : Int} {N : Nat} {s : Rs} {t : Pt} (h : DkAt w M L last N s t) (ok : DOk L last) {v : Wn} (hv : v ∈ L) (f : Wn → Wn) (hfn : (f v).n = v.n) (hfp : (f v).par = v.par)
    (hk : ∀ i, M.own L i → i ≠ M.b v.n → i ≠ M.c v.n → i ≠ M.g v.n → w'.heap[i]? = w.heap[i]?)
    (hw : WinV w' (f v) (M.b v.n) (M.c v.n) (M.g v.n) (M.pp v.par) (M.s v.n) (M.ptrs (kids L v.n))) : DkAt w' M (updL L v.n f) last N s t ∧ (∀ i, M.own (updL L v.n f) i ↔ M.own L i) := by
  obtain ⟨rk, K, T⟩ := ok.tree
  have hnn : ∀ u ∈ L, u.n = v.n → (f u).n = v.n := fun u hu e => by obtain rfl := nd_inj T.nd hu hv e; exact hfn
  have hpp : ∀ u ∈ L, u.n = v.n → (f u).par = u.par := fun u hu e => by obtain rfl := nd_inj T.nd hu hv e; exact hfp
  have hokP : ∀ p : Pl, p.ok (updL L v.n f) ↔ p.ok L := by
    intro p
    cases p with
    | top k => exact Iff.rfl
    | win m k =>
      have e := updL_nums hnn
      have h1 : (∃ u ∈ updL L v.n f, u.n = m) ↔ m ∈ (updL L v.n f).map Wn.n := by simp
      have h2 : (∃ u ∈ L, u.n = m) ↔ m ∈ L.map Wn.n := by simp
      show _ ∧ _ ↔ _ ∧ _
      rw [h1, h2, e]
  have hown : ∀ i, M.own (updL L v.n f) i ↔ M.own L i := fun i => ⟨fun ⟨p, a, b⟩ => ⟨p, (hokP p).1 a, b⟩, fun ⟨p, a, b⟩ => ⟨p, (hokP p).2 a, b⟩⟩
  have hptr : ∀ m, M.ptrs (kids (updL L v.n f) m) = M.ptrs (kids L m) := by
    intro m
    rw [kids_updL hpp]
    unfold Mm.ptrs
    rw [List.map_map]
    refine List.map_congr_left fun u hu => ?_
    simp only [Function.comp]
    split
    · rename_i e; rw [hnn u (mem_kids.1 hu).1 e, e]
    · rfl
  have nt : ∀ k, k < 5 → w'.heap[M.t k]? = w.heap[M.t k]? := fun k hk5 => hk _ (own_top M L k hk5)
    (h.ne (p := .top k) (q := .win v.n 0) hk5 ⟨by omega, v, hv, rfl⟩ rfl rfl (by simp)) (h.ne (p := .top k) (q := .win v.n 1) hk5 ⟨by omega, v, hv, rfl⟩ rfl rfl (by simp)) (h.ne (p := .top k) (q := .win v.n 2) hk5 ⟨by omega, v, hv, rfl⟩ rfl rfl (by simp))
  refine ⟨⟨(nt 0 (by omega)).trans h.b0, (nt 1 (by omega)).trans h.b1, h.scr.same (nt 2 (by omega)) (nt 3 (by omega)) (nt 4 (by omega)), ?_, fun p q i hp hq => h.inj p q i ((hokP p).1 hp) ((hokP q).1 hq), fun i hi => h.two i ((hown i).1 hi)⟩, hown⟩
  intro u hu
  rcases mem_updL hv rfl u hu T.nd with rfl | ⟨huL, hne⟩
  · rw [hfn, hfp, hptr]; exact hw
  · rw [hptr]
    have kk : ∀ k i, k < 4 → M.blk (.win u.n k) = some i → w'.heap[i]? = w.heap[i]? := fun k i hk4 hb =>
      hk i ⟨.win u.n k, ⟨hk4, u, huL, rfl⟩, hb⟩ (h.ne (p := .win u.n k) (q := .win v.n 0) ⟨hk4, u, huL, rfl⟩ ⟨by omega, v, hv, rfl⟩ hb rfl (by simp [hne])) (h.ne (p := .win u.n k) (q := .win v.n 1) ⟨hk4, u, huL, rfl⟩ ⟨by omega, v, hv, rfl⟩ hb rfl (by simp [hne])) (h.ne (p := .win u.n k) (q := .win v.n 2) ⟨hk4, u, huL, rfl⟩ ⟨by omega, v, hv, rfl⟩ hb rfl (by simp [hne]))
    exact (h.win u huL).same (kk 0 _ (by omega) rfl) (kk 1 _ (by omega) rfl) (kk 2 _ (by omega) rfl) (fun i hi => kk 3 i (by omega) hi)
/-- What a call that keeps the desk one leaves. -/
def DPost (M : Mm) (L L' : List Wn) (last' : Int) (N : Nat) (s : Rs) (t : Pt) (w : World) (r : Value) (e : Ending) (w' : World) : Prop :=
  ∃ M', e = .returned r ∧ DkAt w' M' L' last' N s t ∧ M'.t = M.t ∧ Keep (M.own L) w w' ∧ ∀ i, M'.own L' i → M.own L i ∨ w.heap.size ≤ i
section
variable {M : Mm} {L : List Wn} {last : Int} {N : Nat} {s : Rs} {t : Pt}
theorem DkAt.ne_bg {w : World} (h : DkAt w M L last N s t) {v : Wn} (hv : v ∈ L) : M.b v.n ≠ M.g v.n := h.ne (p := .win v.n 0) (q := .win v.n 2) ⟨by omega, v, hv, rfl⟩ ⟨by omega, v, hv, rfl⟩ rfl rfl (by simp)
theorem DkAt.ne_bc {w : World} (h : DkAt w M L last N s t) {v : Wn} (hv : v ∈ L) : M.b v.n ≠ M.c v.n := h.ne (p := .win v.n 0) (q := .win v.n 1) ⟨by omega, v, hv, rfl⟩ ⟨by omega, v, hv, rfl⟩ rfl rfl (by simp)
theorem DkAt.ne_sg {w : World} (h : DkAt w M L last N s t) {v : Wn} (hv : v ∈ L) : (M.s v.n).ownBlock ≠ some (M.g v.n) := fun e => by
  have := h.inj (.win v.n 3) (.win v.n 2) _ ⟨by omega, v, hv, rfl⟩ ⟨by omega, v, hv, rfl⟩ e rfl; simp at this
theorem DkAt.ne_sb {w : World} (h : DkAt w M L last N s t) {v : Wn} (hv : v ∈ L) : (M.s v.n).ownBlock ≠ some (M.b v.n) := fun e => by
  have := h.inj (.win v.n 3) (.win v.n 0) _ ⟨by omega, v, hv, rfl⟩ ⟨by omega, v, hv, rfl⟩ e rfl; simp at this
/-- A window's block is another one now. -/
theorem DkAt.setB {w w' : World} (h : DkAt w M L last N s t) (ok : DOk L last) {v : Wn} (hv : v ∈ L) (f : Wn → Wn) (hfn : (f v).n = v.n) (hfp : (f v).par = v.par) (hG : (f v).W = v.W ∧ (f v).H = v.H ∧ (f v).G = v.G)
    (hb : w'.heap[M.b v.n]? = some (.cells (winArr (f v) (M.pp v.par) (M.c v.n) (M.s v.n)) 131)) (hk : Keep (fun i => i = M.b v.n) w w') (r : Value) : DPost M L (updL L v.n f) last N s t w r (.returned r) w' := by
  have hV := h.win v hv
  have hw : WinV w' (f v) (M.b v.n) (M.c v.n) (M.g v.n) (M.pp v.par) (M.s v.n) (M.ptrs (kids L v.n)) := by
    refine ⟨hb, ?_, ?_, ownsRow_same hV.row (fun i hi => hk.block i (ownsRow_lt hV.row hi).1 (fun e => h.ne_sb hv (by rw [hi, e])))⟩
    · rw [hG.1, hG.2.1, hG.2.2]; exact hV.gr.same (hk.block _ hV.gr.lt (fun e => h.ne_bc hv e.symm)) (hk.block _ hV.gr.glt (fun e => h.ne_bg hv e.symm))
    · rw [hG.1, hG.2.1, hG.2.2]; exact hV.wf
  obtain ⟨D, O⟩ := h.upd ok hv f hfn hfp (fun i hi n1 _ _ => hk.block i (h.lt hi) n1) hw
  exact ⟨M, rfl, D, rfl, hk.mono (fun i e => e ▸ own_b M hv), fun i hi => .inl ((O i).1 hi)⟩
theorem DkAt.setG {w w' : World} (h : DkAt w M L last N s t) (ok : DOk L last) {v : Wn} (hv : v ∈ L) (G : Nat → Nat → Cel) (hwf : Wf v.W v.H G)
    (hg : GrAt w' (M.c v.n) (M.g v.n) v.W v.H (v.H * v.W) G) (hk : Keep (fun i => i = M.g v.n) w w') (r : Value) : DPost M L (updL L v.n (fun u => { u with G := G })) last N s t w r (.returned r) w' := by
  have hV := h.win v hv
  have hw : WinV w' { v with G := G } (M.b v.n) (M.c v.n) (M.g v.n) (M.pp v.par) (M.s v.n) (M.ptrs (kids L v.n)) :=
    ⟨(hk.block _ hV.lt (h.ne_bg hv)).trans hV.blk, hg, hwf, ownsRow_same hV.row (fun i hi => hk.block i (ownsRow_lt hV.row hi).1 (fun e => h.ne_sg hv (by rw [hi, e])))⟩
  obtain ⟨D, O⟩ := h.upd ok hv (fun u => { u with G := G }) rfl rfl (fun i hi _ _ n3 => hk.block i (h.lt hi) n3) hw
  exact ⟨M, rfl, D, rfl, hk.mono (fun i e => e ▸ own_g M hv), fun i hi => .inl ((O i).1 hi)⟩
end
end Go.Proofs.YtjlfibhbfdckpaaGreatDoor

/- The program's calls: Show, Move, Write. -/
namespace Go.Proofs.YtjlfibhbfdckpaaGreatDoor
open Go.RowKit
open Wd (wd)
attribute [local go_sem ↓] Go.wp_at_zero Go.wp_at_succ
/-- May a pen be? -/
def penB (p : Pn) : Bool := Wd.inB p.f 0 8 && Wd.inB p.b 0 8
theorem penB_iff {p : Pn} : penB p = true ↔ 0 ≤ p.f ∧ p.f ≤ 8 ∧ 0 ≤ p.b ∧ p.b ≤ 8 := by simp [penB, Wd.inB, and_assoc]
set_option maxHeartbeats 1000000 in
theorem pPen (p : Pn) (w : World) :
    Calls Tryz.prog 77 #[p.agg] w fun e w' => e = .returned (.bool (penB p)) ∧ Below w.heap.size w w' := by
  cases h1 : Wd.inB p.f 0 8 <;> cases h2 : Wd.inB p.b 0 8
  all_goals
    go_enter Tryz.func77, Tryz.ntmps77
    go_wp2_with (first | (go_at_call 107; refine (pWithin _ _ _ _).mono ?_; rintro e w' ⟨rfl, hw'⟩; replace hw' := hw'.symm; subst hw'))
    go_ret
    exact ⟨by simp [penB, h1, h2], (Below.refl _ _).alloc (Nat.le_refl _) _⟩
section
variable {M : Mm} {L : List Wn} {last : Int} {N : Nat} {s : Rs} {t : Pt}
theorem wIsRoot (v : Wn) (bn cn gn : Nat) (pp : Option Addr) (sv : Value) (ks : List Value) (w : World) (h : WinV w v bn cn gn pp sv ks) :
    Calls Tryz.prog 151 #[.pointer (some ⟨bn, 0, none⟩)] w fun e w' => e = .returned (.bool pp.isNone) ∧ w' = w := by
  have f1 := h.f1
  clear h
  go_enter Tryz.func151, Tryz.ntmps151
  go_wp2_with fail
  go_ret
  exact ⟨rfl, rfl⟩
theorem kBelow (ok : DOk L last) (w : World) (h : DkAt w M L last N s t) (v : Wn) (hv : v ∈ L) (hp : v.par ≠ -1) :
    Calls Tryz.prog 111 #[.pointer (some ⟨M.t 0, 0, none⟩), .int .i64 v.n] w fun e w' => e = .returned (.tuple #[M.ptr v.n, .int .i64 0]) ∧ w' = w := by
  have HD : Hid (DkAt w M L last N s t) := h
  have hf := M.fnd_in hv
  have hpp : (M.pp v.par).isNone = false := by simp [Mm.pp, hp]
  clear h
  go_enter Tryz.func111, Tryz.ntmps111
  go_wp2_with (first | (go_at_call 75; refine (kFind ok _ HD.out _).mono ?_; rintro e w' ⟨rfl, hw'⟩; replace hw' := hw'.symm; subst hw') | (go_at_call 151; refine (wIsRoot v _ _ _ _ _ _ _ (HD.out.win v hv)).mono ?_; rintro e w' ⟨rfl, hw'⟩; replace hw' := hw'.symm; subst hw'))
  go_ret2
  exact ⟨rfl, rfl⟩
theorem wShow (v : Wn) (bn cn gn : Nat) (pp : Option Addr) (sv : Value) (ks : List Value) (b : Bool) (w : World) (h : WinV w v bn cn gn pp sv ks) :
    Calls Tryz.prog 116 #[.pointer (some ⟨bn, 0, none⟩), .bool b] w fun e w' => e = .returned (.tuple #[]) ∧ w'.heap[bn]? = some (.cells (winArr { v with sh := b } pp cn sv) 131) ∧ Keep (fun i => i = bn) w w' := by
  have f4 := h.f4
  have fz := h.free
  have HV : Hid (WinV w v bn cn gn pp sv ks) := h
  clear h
  go_enter Tryz.func116, Tryz.ntmps116
  go_wp2_with fail
  go_end0
  exact ⟨rfl, set_block HV.out.blk _, (Keep.refl _ _).setCell _ _ (fun _ => rfl)⟩
set_option maxHeartbeats 1000000 in
theorem kShow (ok : DOk L last) (w : World) (h : DkAt w M L last N s t) (v : Wn) (hv : v ∈ L) (hp : v.par ≠ -1) (b : Bool) :
    Calls Tryz.prog 53 #[.pointer (some ⟨M.t 0, 0, none⟩), .int .i64 v.n, .bool b] w (DPost M L (updL L v.n (fun u => { u with sh := b })) last N s t w (.int .i64 0)) := by
  have HD : Hid (DkAt w M L last N s t) := h
  clear h
  go_enter Tryz.func53, Tryz.ntmps53
  go_wp2_with (first | (go_at_call 111; refine (kBelow ok _ HD.out v hv hp).mono ?_; rintro e w' ⟨rfl, hw'⟩; replace hw' := hw'.symm; subst hw'))
  go_at_call 116
  refine (wShow v _ _ _ _ _ _ b _ (HD.out.win v hv)).mono ?_
  rintro e wa ⟨rfl, hb, hk⟩
  have HP : Hid (DPost M L (updL L v.n (fun u => { u with sh := b })) last N s t w (.int .i64 0) (.returned (.int .i64 0)) wa) := HD.out.setB ok hv _ rfl rfl ⟨rfl, rfl, rfl⟩ hb hk _
  clear hb hk HD
  go_wp2_with fail
  go_ret
  exact HP.out
set_option maxHeartbeats 1000000 in
theorem wMove (v : Wn) (bn cn gn : Nat) (pp : Option Addr) (sv : Value) (ks : List Value) (x y : Int) (w : World) (h : WinV w v bn cn gn pp sv ks) :
    Calls Tryz.prog 113 #[.pointer (some ⟨bn, 0, none⟩), .int .i64 x, .int .i64 y] w fun e w' => e = .returned (.tuple #[]) ∧ w'.heap[bn]? = some (.cells (winArr { v with x := x, y := y } pp cn sv) 131) ∧ Keep (fun i => i = bn) w w' := by
  have f2 := h.f2
  have f3 := h.f3
  have fz := h.free
  have HV : Hid (WinV w v bn cn gn pp sv ks) := h
  clear h
  go_enter Tryz.func113, Tryz.ntmps113
  go_wp2_with fail
  go_end0
  exact ⟨rfl, set_block (set_block HV.out.blk _) _, ((Keep.refl (fun i => i = bn) w).setCell ⟨bn, 2, none⟩ _ (fun _ => rfl)).setCell ⟨bn, 3, none⟩ _ (fun _ => rfl)⟩
set_option maxHeartbeats 1000000 in
theorem kMove (ok : DOk L last) (w : World) (h : DkAt w M L last N s t) (v : Wn) (hv : v ∈ L) (hp : v.par ≠ -1) (x y : Int) (hpl : placeB x y = true) :
    Calls Tryz.prog 50 #[.pointer (some ⟨M.t 0, 0, none⟩), .int .i64 v.n, .int .i64 x, .int .i64 y] w (DPost M L (updL L v.n (fun u => { u with x := x, y := y })) last N s t w (.int .i64 0)) := by
  have HD : Hid (DkAt w M L last N s t) := h
  clear h
  go_enter Tryz.func50, Tryz.ntmps50
  go_wp2_with (first | (go_at_call 111; refine (kBelow ok _ HD.out v hv hp).mono ?_; rintro e w' ⟨rfl, hw'⟩; replace hw' := hw'.symm; subst hw') | (go_at_call 76; refine (pPlace _ _ _).mono ?_; rintro e w' ⟨rfl, hw'⟩; replace hw' := hw'.symm; subst hw'))
  go_at_call 113
  refine (wMove v _ _ _ _ _ _ x y _ (HD.out.win v hv)).mono ?_
  rintro e wa ⟨rfl, hb, hk⟩
  have HP : Hid (DPost M L (updL L v.n (fun u => { u with x := x, y := y })) last N s t w (.int .i64 0) (.returned (.int .i64 0)) wa) := HD.out.setB ok hv _ rfl rfl ⟨rfl, rfl, rfl⟩ hb hk _
  clear hb hk HD
  go_wp2_with fail
  go_ret
  exact HP.out
set_option maxHeartbeats 1000000 in
theorem kWrite (ok : DOk L last) (w : World) (h : DkAt w M L last N s t) (v : Wn) (hv : v ∈ L) (x y : Int) (hpl : placeB x y = true) (b : ByteArray) (hb : b.size ≤ 200) (p : Pn) (hpn : penB p = true) :
    Calls Tryz.prog 31 #[.pointer (some ⟨M.t 0, 0, none⟩), .int .i64 v.n, .int .i64 x, .int .i64 y, .string b, p.agg] w (DPost M L (updL L v.n (fun u => { u with G := writeAll v.W v.H y p x (runesG b b.size 0) v.G })) last N s t w (.int .i64 0)) := by
  have HD : Hid (DkAt w M L last N s t) := h
  have hf := M.fnd_in hv
  have hx := placeB_iff.1 hpl
  have hb' : ¬ (200 : Int) < (b.size : Int) := by omega
  clear h
  go_enter Tryz.func31, Tryz.ntmps31
  go_wp2_with (first | (go_at_call 75; fail))
  have hb1 : Below w.heap.size w (w.alloc (.cells #[.int .i64 p.f, .int .i64 p.b, .bool p.bo, .bool p.un, .bool p.re] 33)) := (Below.refl _ _).alloc (Nat.le_refl _) _
  have P1 := pen_new w p 33
  generalize w.alloc (.cells #[.int .i64 p.f, .int .i64 p.b, .bool p.bo, .bool p.un, .bool p.re] 33) = wa at *
  have HDa : Hid (DkAt wa M L last N s t) := HD.out.below hb1
  have P1l := P1.lt
  obtain ⟨p0, p1, p2, p3, p4⟩ := id P1
  go_wp2_with (first | (go_at_call 75; refine (kFind ok _ HDa.out _).mono ?_; rintro e w' ⟨rfl, hw'⟩; replace hw' := hw'.symm; subst hw') | (go_at_call 76; refine (pPlace _ _ _).mono ?_; rintro e w' ⟨rfl, hw'⟩; replace hw' := hw'.symm; subst hw'))
  go_at_call 77
  refine (pPen p _).mono ?_
  rintro e wb ⟨rfl, hbb⟩
  have HDb : Hid (DkAt wb M L last N s t) := HDa.out.below hbb
  have P2 := P1.same (hbb.block _ P1l)
  have K2 : Hid (Below w.heap.size w wb) := hb1.trans (hbb.mono hb1.size)
  clear p0 p1 p2 p3 p4 P1 hbb HDa hb1
  obtain ⟨p0, p1, p2, p3, p4⟩ := P2
  go_wp2_with fail
  go_at_call 78
  refine (wWrite v _ _ _ _ _ _ x y b p _ (HDb.out.win v hv) (HDb.out.ne_bg hv) (HDb.out.ne_sg hv) (by omega) hb).mono ?_
  rintro e wc ⟨rfl, G1, K1⟩
  have HP : Hid (DPost M L (updL L v.n (fun u => { u with G := writeAll v.W v.H y p x (runesG b b.size 0) v.G })) last N s t w (.int .i64 0) (.returned (.int .i64 0)) wc) := by
    obtain ⟨M', e1, D1, t1, k1, o1⟩ := HDb.out.setG ok hv _ ((HDb.out.win v hv).wf.writeAll _ x (runesG_ok b b.size 0)) G1 K1 (.int .i64 0)
    exact ⟨M', e1, D1, t1, (Keep.below _ K2.out).trans k1 (fun _ _ h => h), fun i hi => (o1 i hi).imp id (fun h => by have := K2.out.size; omega)⟩
  clear G1 K1 HDb K2 p0 p1 p2 p3 p4
  go_wp2_with fail
  go_ret
  exact HP.out
end
end Go.Proofs.YtjlfibhbfdckpaaGreatDoor
