/- Texts of the proof, one behind the other: UdI, OpA, UdJ. -/
import Derived.Test.YtjlfibhbfdckpaaGreatDoorK40
import Derived.WalkKit
import Derived.ProofKit
import Derived.OpenShut
import Derived.ShutString
import Derived.SliceStrings
import Derived.ChangeOld
import Derived.Below
import Derived.Deep.DeepHandedRow
import Derived.Lib.LaidTab
import Derived.Lib.LaidU8T
import Derived.Test.YtjlfibhbfdckpaaGreatDoorCards
import Derived.Test.YtjlfibhbfdckpaaGreatDoorTie
/- The statement of what is undone. -/
namespace Go.Proofs.YtjlfibhbfdckpaaGreatDoor
open Go.RowKit
attribute [local go_sem ↓] Go.wp_at_zero Go.wp_at_succ
def noAc : Ac := ⟨0, 0, 0, 0, 0, 0, ByteArray.empty, Pn.plain, false⟩
/-- What the walk is told of the script. -/
def AcsIn (w : World) (a : Option Addr) (n : Nat) (cs : List Ac) : Prop :=
  ∀ k, k < n → (cs.getD k noAc).In ∧ ∃ b off, a = some ⟨b, off, none⟩ ∧ b < w.heap.size ∧ ∀ j, j < 13 → w.cell? ⟨b, off + k * 13 + j, none⟩ = (cs.getD k noAc).arr[j]?
/-- .. and of numbers. -/
def IntsIn (w : World) (a : Option Addr) (n : Nat) (l : List Int) : Prop :=
  ∀ k, k < n → Rng (l.getD k 0) ∧ ∃ b off, a = some ⟨b, off, none⟩ ∧ b < w.heap.size ∧ w.cell? ⟨b, off + k, none⟩ = some (.int .i64 (l.getD k 0))
/-- What Flush does to one of two desks. -/
theorem U2.flush {w0 w : World} {da db : Nat} {L : List Wn} {n : Int} {s : Rs} {Lb : List Wn} {nb : Int} {sb : Rs} {rk : Int → Nat} {K : Nat} (h : U2 w0 da db L n s Lb nb sb w) (T : Tree L rk K) (ok : DOk L n) (f : FlOk L s) {r : Wn} (hr : r ∈ L) (hr0 : r.n = 0) (b : List UInt8) (hb : bytesL s (fun x y => picP L K r x y) = b) :
    Calls Tryz.prog 21 #[.pointer (some ⟨da, 0, none⟩)] w fun e w' => e = .returned (bstr b) ∧ U2 w0 da db L n (feedR s b) Lb nb sb w' :=
  h.step (a := fun p => #[.pointer p]) (fun _ _ _ tie D tab => kFlush T ok w D tie f tab r hr hr0 b hb)
/-- What is left of a desk by Flush. -/
theorem FlOk.flush {w : World} {M : Mm} {L : List Wn} {last : Int} {N : Nat} {s : Rs} {t : Pt} {rk : Int → Nat} {K : Nat} (f : FlOk L s) (T : Tree L rk K) (h : DkAt w M L last N s t) {r : Wn} (hr : r ∈ L) (hr0 : r.n = 0) {b : List UInt8} (hb : bytesL s (fun x y => picP L K r x y) = b) : FlOk L (feedR s b) := by
  have hq := (bytes_ok f.fl (f.pic T h hr hr0)).re
  rw [hb] at hq
  exact ⟨hq.fl, f.pens, by rw [hq.W, hq.H]; exact f.fit⟩
/-- Two desks that hold the same. -/
structure Ue (w0 : World) (da db : Nat) (k : Nat) (w : World) : Prop where
  ex : ∃ (L : List Wn) (last : Int) (s : Rs), 0 ≤ last ∧ last ≤ (k : Int) ∧ DOk L last ∧ FlOk L s ∧ U2 w0 da db L last s L last s w
set_option maxRecDepth 100000 in
set_option maxHeartbeats 8000000 in
theorem lUndone (sa : Option Addr) (sn sc : Nat) (cs : List Ac) (la : Option Addr) (ln lc : Nat) (ls : List Int) (w : World) (hw : 2 ≤ w.heap.size) (tab : Tabs w) (hs : AcsIn w sa sn cs) (hl : IntsIn w la ln ls) :
    Calls Tryz.prog 6 #[.slice sa sn sc, .slice la ln lc] w fun e w' => e = .returned (.bool true) ∧ Below w.heap.size w w' := by
  have HT : Hid (Tabs w ∧ AcsIn w sa sn cs ∧ IntsIn w la ln ls) := ⟨tab, hs, hl⟩
  clear tab hs hl
  go_enter Tryz.func6, Tryz.ntmps6
  go_wp2_with fail
  go_at_call 13
  refine (kFlushes w hw HT.out.1).mono ?_
  rintro e w1 ⟨rfl, hb1⟩
  have HB1 : Hid (Below w.heap.size w w1) := hb1
  have hw1 : 2 ≤ w1.heap.size := Nat.le_trans hw hb1.size
  clear hb1
  go_wp2_with fail
  go_at_call 15
  refine (kNew 12 6 _ (by omega) (by omega) (by omega) (by omega) hw1).mono ?_
  rintro e w2 ⟨Ma, rfl, D1, B2, O1⟩
  have H2 : Hid (DkAt w2 Ma [rootW 12 6] 0 (6 * 12) (newR 12 6) newT ∧ Below w1.heap.size w1 w2 ∧ ∀ i, Ma.own [rootW 12 6] i → w1.heap.size ≤ i) := ⟨D1, B2, O1⟩
  have hw2 : 2 ≤ w2.heap.size := Nat.le_trans hw1 B2.size
  clear D1 B2 O1
  go_wp2_with fail
  go_at_call 15
  refine (kNew 12 6 _ (by omega) (by omega) (by omega) (by omega) hw2).mono ?_
  rintro e w3 ⟨Mb, rfl, D2, B3, O2⟩
  have H3 : Hid (Ue w (Ma.t 0) (Mb.t 0) 0 w3) := by
    obtain ⟨D1, B2, O1⟩ := H2.out
    have s1 := HB1.out.size
    have s2 := B2.size
    refine ⟨[rootW 12 6], 0, newR 12 6, by omega, by omega, ok_root 12 6, root_flok (by omega) (by omega) (by omega) (by omega), ⟨⟨Ma, Mb, _, _, _, _, rfl, rfl, D1.below B3, D2, new_tie 12 6, new_tie 12 6, fun i ha hb => ?_, fun i hi => ?_, fun i hi => ?_⟩, (HB1.out.trans (B2.mono s1)).trans (B3.mono (by omega)), HT.out.1⟩⟩
    · have := D1.lt ha; have := O2 i hb; omega
    · have := O1 i hi; omega
    · have := O2 i hi; omega
  obtain ⟨da, hda⟩ : ∃ da, Ma.t 0 = da := ⟨_, rfl⟩
  obtain ⟨db, hdb⟩ : ∃ db, Mb.t 0 = db := ⟨_, rfl⟩
  rw [hda, hdb] at H3
  rw [hda, hdb]
  clear D2 B3 O2 H2 hda hdb
  go_wp2_with fail
  go_loopw [10] (fun vi wr => ∃ k : Nat, vi = .int .i64 k ∧ k ≤ 200 ∧ k ≤ sn ∧ Ue w da db k wr) (fun vi _ => 200 - (intOf vi).toNat)
  case atStart => exact ⟨0, rfl, Nat.zero_le _, Nat.zero_le _, H3.out⟩
  case round =>
    obtain ⟨k, rfl, hk, hkn, hu⟩ := hrel
    have HU : Hid (Ue w da db k wr) := hu
    clear hu H3
    by_cases hc : k < sn ∧ k < 200
    · have hc1 : (k : Int) < (sn : Int) := by omega
      have hc2 : (k : Int) < 200 := by omega
      obtain ⟨ho, sb, so, rfl, hsb, hcell⟩ := HT.out.2.1 k hc.1
      obtain ⟨o, hod⟩ : ∃ o, cs.getD k noAc = o := ⟨_, rfl⟩
      rw [hod] at ho hcell
      obtain ⟨L, last, s, l0, lk, ok, f, u2⟩ := HU.out.ex
      obtain ⟨L', last', c, ax⟩ := act_ex ok l0 (by omega) o ho
      have HO : Hid (∀ j, j < 13 → w.cell? ⟨sb, so + k * 13 + j, none⟩ = o.arr[j]?) := hcell
      have Hsb : Hid (sb < w.heap.size) := hsb
      have HX : Hid (Ax o L last L' last' c ∧ U2 w da db L last s L last s wr ∧ DOk L last ∧ FlOk L s ∧ 0 ≤ last ∧ last ≤ k) := ⟨ax, u2, ok, f, l0, lk⟩
      have hcw : ∀ j, j < 13 → wr.cell? ⟨sb, so + k * 13 + j, none⟩ = o.arr[j]? := fun j hj => (u2.bel.cells hsb _).trans (hcell j hj)
      have k0 : wr.cell? ⟨sb, so + k * 13, none⟩ = some (.int .i64 o.kd) := (hcw 0 (by omega)).trans rfl
      have k1 : wr.cell? ⟨sb, so + k * 13 + 1, none⟩ = some (.int .i64 o.a) := (hcw 1 (by omega)).trans rfl
      have k2 : wr.cell? ⟨sb, so + k * 13 + 2, none⟩ = some (.int .i64 o.b) := (hcw 2 (by omega)).trans rfl
      have k3 : wr.cell? ⟨sb, so + k * 13 + 3, none⟩ = some (.int .i64 o.c) := (hcw 3 (by omega)).trans rfl
      have k4 : wr.cell? ⟨sb, so + k * 13 + 4, none⟩ = some (.int .i64 o.d) := (hcw 4 (by omega)).trans rfl
      have k5 : wr.cell? ⟨sb, so + k * 13 + 5, none⟩ = some (.int .i64 o.e) := (hcw 5 (by omega)).trans rfl
      have k6 : wr.cell? ⟨sb, so + k * 13 + 6, none⟩ = some (.string o.s) := (hcw 6 (by omega)).trans rfl
      have k7 : wr.cell? ⟨sb, so + k * 13 + 7, none⟩ = some (.int .i64 o.p.f) := (hcw 7 (by omega)).trans rfl
      have k8 : wr.cell? ⟨sb, so + k * 13 + 8, none⟩ = some (.int .i64 o.p.b) := (hcw 8 (by omega)).trans rfl
      have k9 : wr.cell? ⟨sb, so + k * 13 + 9, none⟩ = some (.bool o.p.bo) := (hcw 9 (by omega)).trans rfl
      have k10 : wr.cell? ⟨sb, so + k * 13 + 10, none⟩ = some (.bool o.p.un) := (hcw 10 (by omega)).trans rfl
      have k11 : wr.cell? ⟨sb, so + k * 13 + 11, none⟩ = some (.bool o.p.re) := (hcw 11 (by omega)).trans rfl
      have k12 : wr.cell? ⟨sb, so + k * 13 + 12, none⟩ = some (.bool o.wb) := (hcw 12 (by omega)).trans rfl
      have Hc : Hid (k < sn ∧ k < 200) := hc
      clear ho hsb hcell hod l0 lk ok f u2 ax hcw hc hk hkn HU
      go_wp2_with fail
      go_at_call 17
      refine (HX.out.2.1.step (a := fun p => #[.pointer p, o.agg]) (fun M N t tie D _ => (HX.out.1.x wr M N s t HX.out.2.2.2.1.fl.ok D).mono (fun e w' p => ⟨t, tie, p⟩))).mono ?_
      rintro e w5 ⟨rfl, u5⟩
      have H5 : Hid (U2 w da db L' last' s L last s w5) := u5
      have hcw : ∀ j, j < 13 → w5.cell? ⟨sb, so + k * 13 + j, none⟩ = o.arr[j]? := fun j hj => (u5.bel.cells Hsb.out _).trans (HO.out j hj)
      clear k0 k1 k2 k3 k4 k5 k6 k7 k8 k9 k10 k11 k12 u5
      have m0 : w5.cell? ⟨sb, so + k * 13, none⟩ = some (.int .i64 o.kd) := (hcw 0 (by omega)).trans rfl
      have m1 : w5.cell? ⟨sb, so + k * 13 + 1, none⟩ = some (.int .i64 o.a) := (hcw 1 (by omega)).trans rfl
      have m2 : w5.cell? ⟨sb, so + k * 13 + 2, none⟩ = some (.int .i64 o.b) := (hcw 2 (by omega)).trans rfl
      have m3 : w5.cell? ⟨sb, so + k * 13 + 3, none⟩ = some (.int .i64 o.c) := (hcw 3 (by omega)).trans rfl
      have m4 : w5.cell? ⟨sb, so + k * 13 + 4, none⟩ = some (.int .i64 o.d) := (hcw 4 (by omega)).trans rfl
      have m5 : w5.cell? ⟨sb, so + k * 13 + 5, none⟩ = some (.int .i64 o.e) := (hcw 5 (by omega)).trans rfl
      have m6 : w5.cell? ⟨sb, so + k * 13 + 6, none⟩ = some (.string o.s) := (hcw 6 (by omega)).trans rfl
      have m7 : w5.cell? ⟨sb, so + k * 13 + 7, none⟩ = some (.int .i64 o.p.f) := (hcw 7 (by omega)).trans rfl
      have m8 : w5.cell? ⟨sb, so + k * 13 + 8, none⟩ = some (.int .i64 o.p.b) := (hcw 8 (by omega)).trans rfl
      have m9 : w5.cell? ⟨sb, so + k * 13 + 9, none⟩ = some (.bool o.p.bo) := (hcw 9 (by omega)).trans rfl
      have m10 : w5.cell? ⟨sb, so + k * 13 + 10, none⟩ = some (.bool o.p.un) := (hcw 10 (by omega)).trans rfl
      have m11 : w5.cell? ⟨sb, so + k * 13 + 11, none⟩ = some (.bool o.p.re) := (hcw 11 (by omega)).trans rfl
      have m12 : w5.cell? ⟨sb, so + k * 13 + 12, none⟩ = some (.bool o.wb) := (hcw 12 (by omega)).trans rfl
      clear hcw
      go_upto_if 61 with fail
      go_cut [] (fun wc => U2 w da db L' last' s L' last' s wc)
      case first =>
        by_cases h0 : c = 0
        · subst h0
          go_wp2_with fail
          go_at_call 17
          refine (H5.out.swap.step (a := fun p => #[.pointer p, o.agg]) (fun M N t tie D _ => (HX.out.1.x w5 M N s t HX.out.2.2.2.1.fl.ok D).mono (fun e w' p => ⟨t, tie, p⟩))).mono ?_
          rintro e w6 ⟨rfl, u6⟩
          have H6 : Hid (U2 w da db L' last' s L' last' s w6) := u6.swap
          clear u6 m0 m1 m2 m3 m4 m5 m6 m7 m8 m9 m10 m11 m12
          go_wp2_with fail
          go_meet
          case rel => exact H6.out
        · have e := HX.out.1.err h0
          have H6 : Hid (U2 w da db L' last' s L' last' s w5) := by
            have q := H5.out
            rw [e.1, e.2] at q
            show U2 _ _ _ _ _ _ _ _ _ _
            rw [e.1, e.2]
            exact q
          clear e
          go_wp2_with fail
          go_meet
          case rel => exact H6.out
      case rest =>
        have HC : Hid (U2 w da db L' last' s L' last' s wc) := hcut
        have HF : Hid (FlOk L' s ∧ DOk L' last' ∧ 0 ≤ last' ∧ last' ≤ ((k + 1 : Nat) : Int)) := by
          obtain ⟨q1, q2, q3, q4, q5, q6⟩ := HX.out
          have := q1.le
          exact ⟨⟨q4.fl, q1.pens q4.pens, q1.fit _ _ q4.fit⟩, q1.ok, by omega, by omega⟩
        clear hcut m0 m1 m2 m3 m4 m5 m6 m7 m8 m9 m10 m11 m12 H5
        have Hn : Hid (Ue w da db (k + 1) wc) := ⟨L', last', s, HF.out.2.2.1, HF.out.2.2.2, HF.out.2.1, HF.out.1, HC.out⟩
        by_cases hl : k < ln
        · have hl' : (k : Int) < (ln : Int) := by omega
          obtain ⟨hr, lb, lo, rfl, hlb, hlc⟩ := HT.out.2.2 k hl
          obtain ⟨v, hv⟩ : ∃ v, ls.getD k 0 = v := ⟨_, rfl⟩
          rw [hv] at hr hlc
          have kl : wc.cell? ⟨lb, lo + k, none⟩ = some (.int .i64 v) := (HC.out.bel.cells hlb _).trans hlc
          clear hv hlc hlb hr hl
          by_cases hm : v.tmod 3 = 0
          · obtain ⟨rk, K, T⟩ := HF.out.2.1.tree
            obtain ⟨r, tl, eL, r0, _, _⟩ := T.head
            have hrL : r ∈ L' := by rw [eL]; exact List.mem_cons_self
            obtain ⟨b, hb⟩ : ∃ b, bytesL s (fun x y => picP L' K r x y) = b := ⟨_, rfl⟩
            have HFl : Hid (Tree L' rk K ∧ r ∈ L' ∧ r.n = 0 ∧ bytesL s (fun x y => picP L' K r x y) = b) := ⟨T, hrL, r0, hb⟩
            clear T eL r0 hrL hb
            go_wp2_with fail
            go_at_call 21
            refine (HC.out.flush HFl.out.1 HF.out.2.1 HF.out.1 HFl.out.2.1 HFl.out.2.2.1 b HFl.out.2.2.2).mono ?_
            rintro e w7 ⟨rfl, u7⟩
            have H7 : Hid (U2 w db da L' last' s L' last' (feedR s b) w7) := u7.swap
            clear u7 kl
            go_wp2_with fail
            go_at_call 21
            refine (H7.out.flush HFl.out.1 HF.out.2.1 HF.out.1 HFl.out.2.1 HFl.out.2.2.1 b HFl.out.2.2.2).mono ?_
            rintro e w8 ⟨rfl, u8⟩
            have H8 : Hid (Ue w da db (k + 1) w8) := by
              obtain ⟨⟨Ma, _, Na, _, ta, _, _, _, Da, _⟩, _, _⟩ := HC.out
              exact ⟨L', last', feedR s b, HF.out.2.2.1, HF.out.2.2.2, HF.out.2.1, HF.out.1.flush HFl.out.1 Da HFl.out.2.1 HFl.out.2.2.1 HFl.out.2.2.2, u8.swap⟩
            clear u8
            go_wp2_with fail
            go_roundw
            case rel => exact ⟨k + 1, by go_num, by have := Hc.out; omega, by have := Hc.out; omega, H8.out⟩
            case measure => simp [intOf]; have := Hc.out; omega
          · have hm' : (v.tmod 3 == 0) = false := by simpa using hm
            go_wp2_with fail
            go_roundw
            case rel => exact ⟨k + 1, by go_num, by have := Hc.out; omega, by have := Hc.out; omega, Hn.out⟩
            case measure => simp [intOf]; have := Hc.out; omega
        · have hl' : ¬ ((k : Int) < (ln : Int)) := by omega
          clear hl
          go_wp2_with fail
          go_roundw
          case rel => exact ⟨k + 1, by go_num, by have := Hc.out; omega, by have := Hc.out; omega, Hn.out⟩
          case measure => simp [intOf]; have := Hc.out; omega
    · obtain ⟨L, last, s, l0, lk, ok, f, u2⟩ := HU.out.ex
      obtain ⟨rk, K, T⟩ := ok.tree
      obtain ⟨r, tl, eL, r0, _, _⟩ := T.head
      have hrL : r ∈ L := by rw [eL]; exact List.mem_cons_self
      obtain ⟨b, hb⟩ : ∃ b, bytesL s (fun x y => picP L K r x y) = b := ⟨_, rfl⟩
      have HFl : Hid (Tree L rk K ∧ r ∈ L ∧ r.n = 0 ∧ bytesL s (fun x y => picP L K r x y) = b ∧ DOk L last ∧ FlOk L s ∧ U2 w da db L last s L last s wr) := ⟨T, hrL, r0, hb, ok, f, u2⟩
      have hcond : ((decide ((k : Int) < (sn : Int))) && (decide ((k : Int) < 200))) = false := by
        rcases Nat.lt_or_ge k sn with q | q
        · have : ¬ ((k : Int) < 200) := by omega
          simp [this]
        · have : ¬ ((k : Int) < (sn : Int)) := by omega
          simp [this]
      clear T eL r0 hrL hb ok f u2 l0 lk hk hkn
      by_cases hq : k < sn
      · have hq1 : (k : Int) < (sn : Int) := by omega
        have hq2 : ¬ ((k : Int) < 200) := by omega
        clear hq hc hcond
        go_wp2_with fail
        go_at_call 21
        refine (HFl.out.2.2.2.2.2.2.flush HFl.out.1 HFl.out.2.2.2.2.1 HFl.out.2.2.2.2.2.1 HFl.out.2.1 HFl.out.2.2.1 b HFl.out.2.2.2.1).mono ?_
        rintro e w7 ⟨rfl, u7⟩
        have H7 : Hid (U2 w db da L last s L last (feedR s b) w7) := u7.swap
        clear u7
        go_wp2_with fail
        go_at_call 21
        refine (H7.out.flush HFl.out.1 HFl.out.2.2.2.2.1 HFl.out.2.2.2.2.2.1 HFl.out.2.1 HFl.out.2.2.1 b HFl.out.2.2.2.1).mono ?_
        rintro e w8 ⟨rfl, u8⟩
        have H8 : Hid (Below w.heap.size w w8) := u8.bel
        clear u8
        go_wp2_with fail
        go_ret
        exact ⟨rfl, H8.out⟩
      · have hq1 : ¬ ((k : Int) < (sn : Int)) := by omega
        clear hq hc hcond
        go_wp2_with fail
        go_at_call 21
        refine (HFl.out.2.2.2.2.2.2.flush HFl.out.1 HFl.out.2.2.2.2.1 HFl.out.2.2.2.2.2.1 HFl.out.2.1 HFl.out.2.2.1 b HFl.out.2.2.2.1).mono ?_
        rintro e w7 ⟨rfl, u7⟩
        have H7 : Hid (U2 w db da L last s L last (feedR s b) w7) := u7.swap
        clear u7
        go_wp2_with fail
        go_at_call 21
        refine (H7.out.flush HFl.out.1 HFl.out.2.2.2.2.1 HFl.out.2.2.2.2.2.1 HFl.out.2.1 HFl.out.2.2.1 b HFl.out.2.2.2.1).mono ?_
        rintro e w8 ⟨rfl, u8⟩
        have H8 : Hid (Below w.heap.size w w8) := u8.bel
        clear u8
        go_wp2_with fail
        go_ret
        exact ⟨rfl, H8.out⟩
end Go.Proofs.YtjlfibhbfdckpaaGreatDoor

/- Cards: scripts of steps and numbers, opened. -/
namespace Go.Proofs.YtjlfibhbfdckpaaGreatDoor.acts
open Go.ChangeShapes Go.WideShapes Go.ChangeAt Go.RowKit
open Go.ChangeMaps (open_string shut_string)
theorem nine {α : Type} {l : List α} (h : l.length = 9) : ∃ a b c d e f g i j, l = [a, b, c, d, e, f, g, i, j] := by
  match l, h with
  | [a, b, c, d, e, f, g, i, j], _ => exact ⟨a, b, c, d, e, f, g, i, j, rfl⟩
theorem five {α : Type} {l : List α} (h : l.length = 5) : ∃ a b c d e, l = [a, b, c, d, e] := by
  match l, h with
  | [a, b, c, d, e], _ => exact ⟨a, b, c, d, e, rfl⟩
theorem thirteen {α : Type} {l : List α} (h : l.length = 13) : ∃ a b c d e f g i j k m n o, l = [a, b, c, d, e, f, g, i, j, k, m, n, o] := by
  match l, h with
  | [a, b, c, d, e, f, g, i, j, k, m, n, o], _ => exact ⟨a, b, c, d, e, f, g, i, j, k, m, n, o, rfl⟩
theorem cInt : Tryz.prog.cellsOf 3 = 1 := by kernel_rfl
theorem cStr : Tryz.prog.cellsOf 9 = 1 := by kernel_rfl
theorem cBool : Tryz.prog.cellsOf 4 = 1 := by kernel_rfl
theorem cPen : Tryz.prog.cellsOf 33 = 5 := by kernel_rfl
theorem cAc : Tryz.prog.cellsOf 53 = 13 := by kernel_rfl
section
variable {H : Type} {enc : TypeId × Value → H} {base : Nat} {sp : Nat → Bool} {held : Bool} {W : World} {a : Option Addr} {n cap : Nat} {d : DataW H} {p : List MemPlace}
theorem pen_at {fuel : Nat} {cs : List Value} {y : DataW H × List MemPlace} (h : DataW.trod enc Tryz.prog W base sp held fuel 33 cs = some y) : ∃ q : Pn, cs = [.int .i64 q.f, .int .i64 q.b, .bool q.bo, .bool q.un, .bool q.re] ∧ Rng q.f ∧ Rng q.b := by
  obtain ⟨xs, m, _, _, hl, hz, he⟩ := DataW.trod_struct Tryz.underlying33 h
  rw [cPen] at hl
  have hz' : xs.length = 5 := by simpa using hz
  obtain ⟨x0, x1, x2, x3, x4, rfl⟩ := five hz'
  obtain ⟨c0, c1, c2, c3, c4, rfl⟩ := five hl
  have g0 := he 0 _ rfl
  have g1 := he 1 _ rfl
  have g2 := he 2 _ rfl
  have g3 := he 3 _ rfl
  have g4 := he 4 _ rfl
  simp [cInt, cBool] at g0 g1 g2 g3 g4
  obtain ⟨k0, e0, _, w0⟩ := DataW.trod_int Tryz.underlying3 g0
  obtain ⟨k1, e1, _, w1⟩ := DataW.trod_int Tryz.underlying3 g1
  obtain ⟨k2, e2, _⟩ := DataW.trod_bool Tryz.underlying4 g2
  obtain ⟨k3, e3, _⟩ := DataW.trod_bool Tryz.underlying4 g3
  obtain ⟨k4, e4, _⟩ := DataW.trod_bool Tryz.underlying4 g4
  simp only [List.cons.injEq, and_true] at e0 e1 e2 e3 e4
  subst e0 e1 e2 e3 e4
  exact ⟨⟨k0, k1, k2, k3, k4⟩, rfl, bounds_i64 w0, bounds_i64 w1⟩
set_option maxRecDepth 10000 in
theorem ac_at {fuel : Nat} {cs : List Value} {y : DataW H × List MemPlace} (h : DataW.trod enc Tryz.prog W base sp held fuel 53 cs = some y) : ∃ o : Ac, cs = o.arr.toList ∧ o.In := by
  obtain ⟨xs, m, _, _, hl, hz, he⟩ := DataW.trod_struct Tryz.underlying53 h
  rw [cAc] at hl
  have hz' : xs.length = 9 := by simpa using hz
  obtain ⟨x0, x1, x2, x3, x4, x5, x6, x7, x8, rfl⟩ := nine hz'
  obtain ⟨c0, c1, c2, c3, c4, c5, c6, c7, c8, c9, c10, c11, c12, rfl⟩ := thirteen hl
  have g0 := he 0 _ rfl
  have g1 := he 1 _ rfl
  have g2 := he 2 _ rfl
  have g3 := he 3 _ rfl
  have g4 := he 4 _ rfl
  have g5 := he 5 _ rfl
  have g6 := he 6 _ rfl
  have g7 := he 7 _ rfl
  have g8 := he 8 _ rfl
  simp [cInt, cStr, cPen, cBool] at g0 g1 g2 g3 g4 g5 g6 g7 g8
  obtain ⟨k0, e0, _, w0⟩ := DataW.trod_int Tryz.underlying3 g0
  obtain ⟨k1, e1, _, w1⟩ := DataW.trod_int Tryz.underlying3 g1
  obtain ⟨k2, e2, _, w2⟩ := DataW.trod_int Tryz.underlying3 g2
  obtain ⟨k3, e3, _, w3⟩ := DataW.trod_int Tryz.underlying3 g3
  obtain ⟨k4, e4, _, w4⟩ := DataW.trod_int Tryz.underlying3 g4
  obtain ⟨k5, e5, _, w5⟩ := DataW.trod_int Tryz.underlying3 g5
  obtain ⟨s6, e6, _, w6⟩ := DataW.trod_string Tryz.underlying9 g6
  obtain ⟨q, e7, f1, f2⟩ := pen_at g7
  obtain ⟨k8, e8, _⟩ := DataW.trod_bool Tryz.underlying4 g8
  simp only [List.cons.injEq, and_true] at e0 e1 e2 e3 e4 e5 e6 e7 e8
  obtain ⟨y0, y1, y2, y3, y4⟩ := e7
  subst e0 e1 e2 e3 e4 e5 e6 e8 y0 y1 y2 y3 y4
  unfold maxLen at w6
  exact ⟨⟨k0, k1, k2, k3, k4, k5, s6, q, k8⟩, rfl, ⟨bounds_i64 w0, bounds_i64 w1, bounds_i64 w2, bounds_i64 w3, bounds_i64 w4, bounds_i64 w5, f1, f2, by show s6.size ≤ _; omega⟩⟩
theorem acs_in (h : DataW.Trod enc Tryz.prog W base (fun _ => true) held 44 (.slice a n cap) d p) : ∃ cs, AcsIn W a n cs := by
  obtain ⟨fuel, hf⟩ := h
  rcases DataW.trod_slice Tryz.underlying44 hf with ⟨hcs, _⟩ | ⟨x, l, c, elems, rest, m, _, hcs, hx, _, hl, hm, hlen, hel, _, _⟩
  · simp [Value.cells] at hcs
    obtain ⟨rfl, rfl, rfl⟩ := hcs
    exact ⟨[], fun k hk => by omega⟩
  · simp [Value.cells] at hcs
    obtain ⟨rfl, rfl, rfl⟩ := hcs
    rw [cAc] at hel
    have each : ∀ i, i < n → ∃ o : Ac, (∀ j, j < 13 → W.cell? ((x.add (i * 13)).add j) = o.arr.toList[j]?) ∧ o.In := by
      intro i hi
      have hi' : i < elems.length := by omega
      have h2 := hel i hi
      rw [List.getElem?_eq_getElem hi', Option.bind_eq_some_iff] at h2
      obtain ⟨cs, h3, h4⟩ := h2
      obtain ⟨o, rfl, hw⟩ := ac_at h4
      exact ⟨o, fun j hj => (World.cells?_some h3).2.2 j hj, hw⟩
    classical
    have hget : ∀ (k : Nat) (hk : k < n), ((List.range n).map (fun i => if h : i < n then Classical.choose (each i h) else noAc)).getD k noAc = Classical.choose (each k hk) := by
      intro k hk
      rw [List.getD_eq_getElem?_getD, List.getElem?_map, List.getElem?_range hk]
      simp [hk]
    refine ⟨(List.range n).map (fun i => if h : i < n then Classical.choose (each i h) else noAc), fun k hk => ?_⟩
    obtain ⟨hc, hw⟩ := Classical.choose_spec (each k hk)
    have h00 := (Classical.choose_spec (each 0 (by omega))).1 0 (by omega)
    rw [hget k hk]
    clear hget
    generalize Classical.choose (each k hk) = o at hc hw ⊢
    obtain ⟨b, off, spot⟩ := x
    have hspot : spot = none := by simpa [Addr.add] using World.cell?_spot h00
    subst hspot
    have hcc : ∀ j, j < 13 → W.cell? ⟨b, off + k * 13 + j, none⟩ = o.arr[j]? := fun j hj => by
      have := hc j hj
      rw [Go.WideShapes.add_plain, Go.WideShapes.add_plain] at this
      rw [this]
      simp
    have h0 : W.cell? ⟨b, off + k * 13 + 0, none⟩ = some (.int .i64 o.kd) := (hcc 0 (by omega)).trans rfl
    exact ⟨hw, b, off, rfl, World.block_lt_of_cell? _ _ h0, hcc⟩
theorem ints_in (h : DataW.Trod enc Tryz.prog W base (fun _ => true) held 45 (.slice a n cap) d p) : ∃ l, IntsIn W a n l := by
  obtain ⟨fuel, hf⟩ := h
  rcases DataW.trod_slice Tryz.underlying45 hf with ⟨hcs, _⟩ | ⟨x, l, c, elems, rest, m, _, hcs, hx, _, hl, hm, hlen, hel, _, _⟩
  · simp [Value.cells] at hcs
    obtain ⟨rfl, rfl, rfl⟩ := hcs
    exact ⟨[], fun k hk => by omega⟩
  · simp [Value.cells] at hcs
    obtain ⟨rfl, rfl, rfl⟩ := hcs
    rw [cInt] at hel
    have each : ∀ i, i < n → ∃ z : Int, W.cell? ((x.add (i * 1)).add 0) = some (.int .i64 z) ∧ Rng z := by
      intro i hi
      have hi' : i < elems.length := by omega
      have h2 := hel i hi
      rw [List.getElem?_eq_getElem hi', Option.bind_eq_some_iff] at h2
      obtain ⟨cs, h3, h4⟩ := h2
      obtain ⟨z, rfl, _, hw⟩ := DataW.trod_int Tryz.underlying3 h4
      exact ⟨z, (World.cells?_some h3).2.2 0 (by omega), bounds_i64 hw⟩
    classical
    have hget : ∀ (k : Nat) (hk : k < n), ((List.range n).map (fun i => if h : i < n then Classical.choose (each i h) else (0 : Int))).getD k 0 = Classical.choose (each k hk) := by
      intro k hk
      rw [List.getD_eq_getElem?_getD, List.getElem?_map, List.getElem?_range hk]
      simp [hk]
    refine ⟨(List.range n).map (fun i => if h : i < n then Classical.choose (each i h) else (0 : Int)), fun k hk => ?_⟩
    obtain ⟨hc, hw⟩ := Classical.choose_spec (each k hk)
    have h00 := (Classical.choose_spec (each 0 (by omega))).1
    rw [hget k hk]
    clear hget
    generalize Classical.choose (each k hk) = z at hc hw ⊢
    obtain ⟨b, off, spot⟩ := x
    have hspot : spot = none := by simpa [Addr.add] using World.cell?_spot h00
    subst hspot
    have hcc : W.cell? ⟨b, off + k, none⟩ = some (.int .i64 z) := by
      have := hc
      rw [Go.WideShapes.add_plain, Go.WideShapes.add_plain] at this
      simpa using this
    exact ⟨hw, b, off, rfl, World.block_lt_of_cell? _ _ hcc, hcc⟩
end
end Go.Proofs.YtjlfibhbfdckpaaGreatDoor.acts

/- The proof of Undone: the row and the card. -/
namespace Go.Proofs.YtjlfibhbfdckpaaGreatDoor.undone
open Go.ChangeShapes Go.WideShapes Go.ChangeAt Go.RowKit
open Go.ChangeMaps (open_string shut_string)
theorem own : ownKnob Tryz.prog.godebug = none := by kernel_rfl
theorem laidOut : laidOutB Tryz.prog = true := by kernel_rfl
/-- The shelf's numbers for the two tables and their types, at this program. -/
def ren : Go.Shelf.Ren := ⟨fun x => x, fun x => if x = 5 then 5 else if x = 119 then 269 else if x = 138 then 271 else 272, fun x => if x = 3 then 0 else 1⟩
theorem types : U8Types Tryz.prog ren := ⟨by kernel_rfl, by kernel_rfl, by kernel_rfl, by kernel_rfl⟩
theorem extra : U8Extra Tryz.prog ren := ⟨by kernel_rfl, by kernel_rfl, by kernel_rfl, by kernel_rfl, by kernel_rfl, by kernel_rfl, by kernel_rfl⟩
theorem first_same : Rows.laid_unicode_utf8_first = Lib.firstData := by kernel_rfl
theorem accept_same : (Rows.laid_unicode_utf8_acceptRanges : DataW Unit) = Lib.acceptData := by kernel_rfl
theorem tabs {W : World} (h : laidMetH Tryz.prog Rows.undoneRow.laid W) : Lib.Utf8Tabs 0 1 W := by
  have h' : laidMet Tryz.prog Rows.undoneRow.laid W := h
  refine utf8Tabs_of_readsT types extra ?_ ?_
  · rw [← first_same]; exact Lib.laidMet.reads h' (by simp [Rows.undoneRow])
  · rw [← accept_same]; exact Lib.laidMet.reads h' (by simp [Rows.undoneRow])
theorem tabs_size {W : World} (h : Lib.Utf8Tabs 0 1 W) : 2 ≤ W.heap.size := World.block_lt_of_cell? _ _ (h.2 0 (by omega)).1
set_option maxRecDepth 100000 in
/-- WHAT THE WALK GIVES. -/
theorem contract (H : Type) (enc : TypeId × Value → H) (W : World) (base : Nat) (args : Array Value) (ds gs : List (DataW H)) (before : List MemPlace)
    (hval : ∀ (j : Nat) t v, Tryz.f6.params[j]? = some t → args[j]? = some v → Value.okWide Tryz.prog W .any base t v)
    (hW : DataW.Whole enc Tryz.prog Tryz.f6.params.toList Rows.undoneSpec.vars false W args.toList ds gs before) (hT : Lib.Utf8Tabs 0 1 W) :
    Calls Tryz.prog 6 args W fun e W' => ∃ v, e = .returned v ∧ Rows.undoneSpec.post enc Tryz.prog Tryz.f6 false true false false W args v W' := by
  have hL := tabs_size hT
  have hW' := hW
  obtain ⟨p, q, hA0, hV, rfl, hfz, hnd⟩ := hW
  have hA : DataW.TrodAll enc Tryz.prog W 0 (fun _ => true) true Tryz.f6.params.toList args.toList ds p := hA0
  rw [Tryz.params6] at hA hval
  obtain ⟨v0, vs0, d0, ds0, p0, q0, hargs, rfl, rfl, h0, r0⟩ := trodAll_cons hA
  obtain ⟨v1, vs1, d1, ds1, p1, q1, hargs1, rfl, rfl, h1, r1⟩ := trodAll_cons r0
  obtain ⟨rfl, rfl, rfl⟩ := trodAll_nil r1
  subst hargs1
  obtain rfl : args = #[v0, v1] := by cases args; simp_all
  obtain ⟨rfl, rfl⟩ := trodVars_none hV
  have k0 := h0
  have k1 := h1
  have lt0 : ∀ x ∈ p0, x.block < W.heap.size := by obtain ⟨m, hm⟩ := k0; exact DataW.trod_lt m _ _ _ hm
  have lt1 : ∀ x ∈ p1, x.block < W.heap.size := by obtain ⟨m, hm⟩ := k1; exact DataW.trod_lt m _ _ _ hm
  obtain ⟨ta, tn, tc, rfl⟩ := okWide_slice Tryz.underlying44 (hval 0 44 v0 rfl rfl)
  obtain ⟨la, ln, lc, rfl⟩ := okWide_slice Tryz.underlying45 (hval 1 45 v1 rfl rfl)
  obtain ⟨cs, hF⟩ := acts.acs_in h0
  obtain ⟨ls, hG⟩ := acts.ints_in h1
  refine (lUndone ta tn tc cs la ln lc ls W hL hT hF hG).mono fun e W' ⟨he, bel⟩ => ?_
  subst he
  exact ⟨_, rfl, _, _, _, [], _, [], hW', trodAll_mk1 (shut_bool Tryz.underlying4 _),
    (trodAll_cons_mk (Below.trod laidOut (by kernel_rfl) (of_decide_eq_true (by kernel_rfl)) k0 bel lt0) (trodAll_cons_mk (Below.trod laidOut (by kernel_rfl) (of_decide_eq_true (by kernel_rfl)) k1 bel lt1) trodAll_mk0)), rfl, bel.frame _, fun h => by cases h⟩
/-- A world for the witness: the settled one, the tables holding what is laid. -/
def flatV : DataW Unit → List Value
  | .agg l => l.flatMap fun d => match d with
    | .lit (.int k z) => [.int k z]
    | .agg m => m.map fun d => match d with
      | .lit (.int k z) => .int k z
      | _ => .bool false
    | _ => []
  | _ => []
def lay (d : DataW Unit) : Obj → Obj
  | .cells _ t frozen => .cells (flatV d).toArray t frozen
  | o => o
noncomputable def laidWorld (os : Os) : World :=
  { World.holding Tryz.prog os ⟨#[], #[], []⟩ with heap := (((((World.holding Tryz.prog os ⟨#[], #[], []⟩).heap.modify 0 (lay Rows.laid_unicode_utf8_first)).modify 1 (lay Rows.laid_unicode_utf8_acceptRanges)).modify 3 (lay Rows.laid_internal_strconv_uint64pow10)).modify 4 (lay Rows.laid_math_bits_deBruijn32tab)).modify 5 (lay Rows.laid_math_bits_deBruijn64tab) }
theorem laid_met (os : Os) : laidMet Tryz.prog Rows.undoneRow.laid ((laidWorld os).forCall (fun _ _ => 0) ⟨#[], #[.slice none 0 0, .slice none 0 0], []⟩).memory :=
  laidMet_of_run' 8 (by kernel_rfl) (by kernel_rfl)
theorem reads (os : Os) {H : Type} (enc : TypeId × Value → H) : ∃ places, DataW.whole enc Tryz.prog ((laidWorld os).forCall (fun _ _ => 0) ⟨#[], #[.slice none 0 0, .slice none 0 0], []⟩).memory Tryz.f6.params.toList Rows.undoneSpec.vars false #[Value.slice none 0 0, .slice none 0 0].toList 8 = some ([.nil, .nil], [], places) :=
  ⟨[], by kernel_rfl⟩
set_option maxRecDepth 100000 in
theorem lifted (os : Os) (started : os.Started) (H : Type) (enc : TypeId × Value → H) (F : Stop.Interp) :
    ReturnsInHanded {} Tryz.checked os 6 .any ((OpenSpec.ofChange Rows.undoneSpec).preRow enc Tryz.prog Tryz.f6 Rows.undoneRow.domain false Rows.undoneRow.laid) (((OpenSpec.ofChange Rows.undoneSpec).at F).post enc Tryz.prog Tryz.f6 false true false false) := by
  obtain ⟨places, hx⟩ := reads os enc
  refine returnsInHanded_of_row (C := Tryz.checked) (s := OpenSpec.ofChange Rows.undoneSpec) own started (by kernel_rfl) Tryz.func6
    (witness_row_at (enc := enc) (C := Tryz.checked) false (laidWorld os) #[.slice none 0 0, .slice none 0 0] rfl (by kernel_rfl) (by kernel_rfl) (by kernel_rfl)
      (OpenSpec.preRow_of_cond 8 hx (by kernel_rfl) (fun k hk => by cases hk) (by kernel_rfl) (laid_met os))) ?_
  intro W base args ds gs before hval hW _ _ _ hL _ _
  exact contract H enc W base args ds gs before hval hW (tabs hL)
theorem said : Rows.UndoneSaid :=
  OpenClaim.holds_of_cond 6 Tryz.f6 rfl rfl rfl rfl rfl rfl rfl ⟨rfl, rfl, rfl, rfl, rfl⟩ rfl rfl rfl rfl rfl (by kernel_rfl) Tryz.func6 (by kernel_rfl)
    (of_decide_eq_true (by kernel_rfl)) (by unfold Func.isWrapper; first | (rw [if_pos (by decide +kernel)]; kernel_rfl) | (rw [if_neg (by decide +kernel)]; exact ⟨rfl, rfl⟩))
    (fun os started H enc _ F => by rw [OpenClaim.pre_eq_preRow]; exact lifted os started H enc F)
theorem plain (f : FuncId) (fn : Func) (hf : Tryz.pinned.checked.prog.funcNamed "casement/casementkeep.Undone" = some f) (hfn : Tryz.pinned.checked.prog.funcs[f]? = some fn) :
    true = Tryz.pinned.checked.prog.looks [] ∧ ∀ (j : Nat) t, fn.params[j]? = some t → Tryz.pinned.checked.prog.wantsStandIn t = false := by
  obtain rfl : f = 6 := Option.some.inj ((show Tryz.prog.funcNamed "casement/casementkeep.Undone" = some 6 by kernel_rfl).symm.trans hf) |>.symm
  obtain rfl : fn = Tryz.f6 := (Option.some.inj (Tryz.func6.symm.trans hfn)).symm
  refine ⟨by kernel_rfl, fun j t ht => ?_⟩
  rw [Tryz.params6] at ht
  have hm : t = 44 ∨ t = 45 := by simpa using Array.mem_of_getElem? ht
  rcases hm with rfl | rfl
  · exact (show Tryz.prog.wantsStandIn 44 = false by kernel_rfl)
  · exact (show Tryz.prog.wantsStandIn 45 = false by kernel_rfl)
theorem card : Rows.UndoneCardSaid :=
  Claim7.holds_tied_plain_at .later [] _ _ _ _ said (fun _ h => by cases h) (by kernel_rfl) (fun _ h => by cases h) undone_row_tie rfl ⟨rfl, rfl⟩ (by kernel_rfl) rfl plain (by kernel_rfl)
end Go.Proofs.YtjlfibhbfdckpaaGreatDoor.undone
namespace Go.Proofs.YtjlfibhbfdckpaaGreatDoor
theorem undone_holds : Rows.UndoneCardSaid := undone.card
#print axioms undone_holds
end Go.Proofs.YtjlfibhbfdckpaaGreatDoor
