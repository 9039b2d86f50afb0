/- Texts of the proof, one behind the other: FxF, FxH, FxJ, UdH, UdI, OpA. -/
import Derived.Test.YtjlfibhbfdckpaaGreatDoorK15
import Derived.Test.YtjlfibhbfdckpaaGreatDoorK16
import Derived.Test.YtjlfibhbfdckpaaGreatDoorK18
import Derived.Test.YtjlfibhbfdckpaaGreatDoorK32
import Derived.Test.YtjlfibhbfdckpaaGreatDoorK34
import Derived.Test.YtjlfibhbfdckpaaGreatDoorK35
import Derived.WalkKit
import Derived.ProofKit
import Derived.OpenShut
import Derived.ShutString
import Derived.SliceStrings
import Derived.ChangeOld
import Derived.Below
import Derived.Deep.DeepHandedRow
import Derived.Lib.LaidTab
import Derived.Lib.LaidU8T
/- Flush: nearest. -/
namespace Go.Proofs.YtjlfibhbfdckpaaGreatDoor
open Go.RowKit
attribute [local go_sem ↓] Go.wp_at_zero Go.wp_at_succ
/-- What is known behind k of the two ways of l + 1 lines. -/
def nearK (s : Rs) (P : Nat → Nat → Cel) (l : Nat) : Nat → Int × Nat
  | 0 => nearN s P l
  | 1 => nearS s P (nearN s P l) ((l + 1 : Nat) : Int)
  | _ + 2 => nearN s P (l + 1)
def wayK (l : Nat) : Nat → Int
  | 0 => ((l + 1 : Nat) : Int)
  | _ + 1 => -((l + 1 : Nat) : Int)
theorem nearK_step (s : Rs) (P : Nat → Nat → Cel) (l : Nat) {k : Nat} (hk : k < 2) : nearK s P l (k + 1) = nearS s P (nearK s P l k) (wayK l k) := by
  match k, hk with
  | 0, _ => rfl
  | 1, _ => rfl
theorem nearS_le (s : Rs) (P : Nat → Nat → Cel) {st : Int × Nat} (h : st.2 ≤ s.H * s.W) (n : Int) : (nearS s P st n).2 ≤ s.H * s.W := by
  unfold nearS
  split
  · exact cnt_le _ _
  · exact h
theorem nearN_le (s : Rs) (P : Nat → Nat → Cel) (l : Nat) : (nearN s P l).2 ≤ s.H * s.W := by
  induction l with
  | zero => exact cnt_le _ _
  | succ l ih => exact nearS_le s P (nearS_le s P ih _) _
theorem nearK_le (s : Rs) (P : Nat → Nat → Cel) (l k : Nat) : (nearK s P l k).2 ≤ s.H * s.W := by
  match k with
  | 0 => exact nearN_le s P l
  | 1 => exact nearS_le s P (nearN_le s P l) _
  | _ + 2 => exact nearN_le s P (l + 1)
set_option maxHeartbeats 8000000 in
set_option maxRecDepth 100000 in
theorem qNearest (bs bg g N : Nat) (s : Rs) (t : Pt) (po pc : Nat) (lb lc : Nat → Nat) (H : Nat) (P : Nat → Nat → Cel) (w : World) (hp : PrAt w bs bg g N s t) (pic : PcM w po lb lc s.W H P) (hs : H = s.H) (ok : s.Ok) :
    Calls Tryz.prog 158 #[.pointer (some ⟨bs, 0, none⟩), .slice (some ⟨po, 0, none⟩) H pc] w fun e w' => e = .returned (.int .i64 (nearN s P s.H).1) ∧ Below w.heap.size w w' := by
  have HH : Hid (PrAt w bs bg g N s t ∧ PcM w po lb lc s.W H P ∧ H = s.H ∧ s.Ok) := ⟨hp, pic, hs, ok⟩
  have hH : H ≤ 20 := by have := ok.h2; omega
  have hmul : s.H * s.W ≤ 20 * 40 := Nat.mul_le_mul ok.h2 ok.w2
  have Hle : Hid (∀ l k, (nearK s P l k).2 ≤ 800) := fun l k => Nat.le_trans (nearK_le s P l k) hmul
  have Hol : Hid (∀ n, othersN s P n ≤ 800) := fun n => Nat.le_trans (cnt_le _ _) hmul
  have HO : Hid (∀ (wx : World) (n : Int), Below w.heap.size w wx → -100 < n → n < 100 → Calls Tryz.prog 180 #[.pointer (some ⟨bs, 0, none⟩), .slice (some ⟨po, 0, none⟩) H pc, .int .i64 n] wx fun e w' => e = .returned (.int .i64 (othersN s P n : Nat)) ∧ Below wx.heap.size wx w') := fun wx n hb a b => qOthers bs bg g N s t po pc lb lc H P n wx (hp.below hb) (pic.below hb) hs ok a b
  clear hp pic hs ok hmul
  go_enter Tryz.func158, Tryz.ntmps158
  go_wp2_with fail
  go_at_call 180
  refine (HO.out w 0 (Below.refl _ _) (by omega) (by omega)).mono ?_
  rintro e w1 ⟨rfl, hb1⟩
  have HB1 : Hid (Below w.heap.size w w1) := hb1
  clear hb1
  go_wp2_with fail
  go_loopw [7, 5, 6] (fun vl vb vf wr => ∃ l : Nat, vl = .int .i64 ((l + 1 : Nat) : Int) ∧ l ≤ H ∧ vb = .int .i64 (nearN s P l).1 ∧ vf = .int .i64 ((nearN s P l).2 : Nat) ∧ Below w.heap.size w wr) (fun vl _ _ _ => H + 1 - (intOf vl).toNat)
  case atStart => exact ⟨0, rfl, Nat.zero_le _, rfl, rfl, HB1.out⟩
  case round =>
    obtain ⟨l, rfl, hl, rfl, rfl, hbw⟩ := hrel
    have HB : Hid (Below w.heap.size w wr) := hbw
    clear hbw HB1
    by_cases hc : l + 1 ≤ H
    · have hc' : ((l + 1 : Nat) : Int) ≤ (H : Int) := by omega
      obtain ⟨ln, hln⟩ : ∃ ln, l + 1 = ln := ⟨_, rfl⟩
      have Hln : Hid (l + 1 = ln ∧ l + 1 ≤ H) := ⟨hln, hc⟩
      rw [hln] at hc' ⊢
      have hl2 : (ln : Int) ≤ 20 := by omega
      have hl1 : (0 : Int) < (ln : Int) := by omega
      clear hln hc hl
      go_wp2_with fail
      have hA : ∃ wA M, wr.alloc (.cells #[.int .i64 (ln : Int), .int .i64 (-(ln : Int))] 3) = wA ∧ wr.heap.size = M ∧ Below wr.heap.size wr wA ∧ wA.heap[M]? = some (.cells #[.int .i64 (ln : Int), .int .i64 (-(ln : Int))] 3) := ⟨_, _, rfl, rfl, (Below.refl _ _).alloc (Nat.le_refl _) _, heap_new _ _⟩
      obtain ⟨wA, M, hwA, hM, belA, bA⟩ := hA
      rw [hwA]
      have zA : M < wA.heap.size := (Array.getElem?_eq_some_iff.1 bA).1
      have HA : Hid (Below wr.heap.size wr wA ∧ wA.heap[M]? = some (.cells #[.int .i64 (ln : Int), .int .i64 (-(ln : Int))] 3)) := ⟨belA, bA⟩
      have HM : Hid (wr.heap.size = M) := hM
      try rw [hM]
      clear hwA belA bA hM
      go_loopw [25, 5, 6] (fun vi vb vf wi => ∃ k : Nat, vi = .int .i64 k ∧ k ≤ 2 ∧ vb = .int .i64 (nearK s P l k).1 ∧ vf = .int .i64 ((nearK s P l k).2 : Nat) ∧ Below wA.heap.size wA wi) (fun vi _ _ _ => 2 - (intOf vi).toNat)
      case atStart => exact ⟨0, rfl, Nat.zero_le _, rfl, rfl, Below.refl _ _⟩
      case round =>
        obtain ⟨k, rfl, hk, rfl, rfl, hbi⟩ := hrel
        have HBi : Hid (Below wA.heap.size wA wr) := hbi
        have bM : wr.heap[M]? = some (.cells #[.int .i64 (ln : Int), .int .i64 (-(ln : Int))] 3) := (hbi.block M zA).trans HA.out.2
        have HBw : Hid (Below w.heap.size w wr) := (HB.out.trans (HA.out.1.mono HB.out.size)).trans (hbi.mono (by have := HB.out.size; have := HA.out.1.size; omega))
        clear hbi
        by_cases hkc : k < 2
        · have hkc' : (k : Int) < 2 := by omega
          have hw : wr.cell? ⟨M, k, none⟩ = some (.int .i64 (wayK l k)) := by
            have e := Hln.out.1
            rw [cell_of_block bM]
            match k, hkc with
            | 0, _ => exact congrArg (fun z : Nat => some (Value.int .i64 (z : Int))) e.symm
            | 1, _ => exact congrArg (fun z : Nat => some (Value.int .i64 (-(z : Int)))) e.symm
          have hwl : -100 < wayK l k ∧ wayK l k < 100 := by
            have e := Hln.out.1
            have : wayK l k = ln ∨ wayK l k = -ln := by
              match k, hkc with
              | 0, _ => left; unfold wayK; rw [e]
              | 1, _ => right; unfold wayK; rw [e]
            omega
          have Hwl : Hid (-100 < wayK l k ∧ wayK l k < 100) := hwl
          have Hst : Hid (nearK s P l (k + 1) = nearS s P (nearK s P l k) (wayK l k)) := nearK_step s P l hkc
          have hle := Hle.out l k
          have hol := Hol.out (wayK l k)
          have Hkk : Hid (k < 2) := hkc
          obtain ⟨st, hst⟩ : ∃ st, nearK s P l k = st := ⟨_, rfl⟩
          rw [hst] at Hst hle ⊢
          clear hst hwl bM hkc hk
          go_wp2_with fail
          go_at_call 180
          refine (HO.out wr (wayK l k) HBw.out Hwl.out.1 Hwl.out.2).mono ?_
          rintro e w9 ⟨rfl, hb9⟩
          have HB9 : Hid (Below wA.heap.size wA w9) := HBi.out.trans (hb9.mono HBi.out.size)
          obtain ⟨on, hon⟩ : ∃ on, othersN s P (wayK l k) = on := ⟨_, rfl⟩
          have Hdef : Hid (nearS s P st (wayK l k) = if on < st.2 then (wayK l k, on) else st) := by rw [← hon]; rfl
          rw [hon] at hol ⊢
          clear hb9 hon hw
          by_cases hcmp : on < st.2
          · have hcmp' : (on : Int) < (st.2 : Int) := by omega
            have Hd2 : Hid (nearK s P l (k + 1) = (wayK l k, on)) := by
              show _ = _
              rw [Hst.out, Hdef.out, if_pos hcmp]
            clear hcmp
            go_wp2_with fail
            go_roundw
            case rel => exact ⟨k + 1, by go_num, by have := Hkk.out; omega, by rw [Hd2.out], by rw [Hd2.out], HB9.out⟩
            case measure => simp [intOf]; have := Hkk.out; omega
          · have hcmp' : ¬ ((on : Int) < (st.2 : Int)) := by omega
            have Hd2 : Hid (nearK s P l (k + 1) = st) := by
              show _ = _
              rw [Hst.out, Hdef.out, if_neg hcmp]
            clear hcmp
            go_wp2_with fail
            go_roundw
            case rel => exact ⟨k + 1, by go_num, by have := Hkk.out; omega, by rw [Hd2.out], by rw [Hd2.out], HB9.out⟩
            case measure => simp [intOf]; have := Hkk.out; omega
        · have hkc' : ¬ ((k : Int) < 2) := by omega
          have ek : k = 2 := by omega
          have Hek : Hid (k = 2) := ek
          clear ek bM hk hkc
          go_wp2_with fail
          go_roundw
          case rel => exact ⟨ln, by go_num, by have := Hln.out; omega, by rw [Hek.out, ← Hln.out.1]; rfl, by rw [Hek.out, ← Hln.out.1]; rfl, HBw.out⟩
          case measure => simp [intOf]; have := Hln.out; omega
    · have el : l = H := by omega
      have hc' : ¬ (((l + 1 : Nat) : Int) ≤ (H : Int)) := by omega
      have Hel : Hid (l = s.H) := by rw [el]; exact HH.out.2.2.1
      clear el hc hl
      go_wp2_with fail
      go_ret
      exact ⟨by rw [← Hel.out]; rfl, HB.out⟩
end Go.Proofs.YtjlfibhbfdckpaaGreatDoor

/- Flush: Bytes. -/
namespace Go.Proofs.YtjlfibhbfdckpaaGreatDoor
open Go.RowKit
attribute [local go_sem ↓] Go.wp_at_zero Go.wp_at_succ
set_option maxHeartbeats 4000000 in
set_option maxRecDepth 100000 in
theorem qBytes (bs bg g N : Nat) (s : Rs) (t : Pt) (po pc : Nat) (lb lc : Nat → Nat) (H : Nat) (P : Nat → Nat → Cel) (w : World) (hp : PrAt w bs bg g N s t) (tie : Tie s.B t) (pic : PcM w po lb lc s.W H P) (hs : H = s.H) (hpc : H ≤ pc) (tab : Tabs w) (h2 : 2 ≤ w.heap.size) (fl : s.Fl) (hP : PicOk s.W s.H P) :
    Calls Tryz.prog 123 #[.pointer (some ⟨bs, 0, none⟩), .slice (some ⟨po, 0, none⟩) H pc] w fun e w' => e = .returned (bstr (bytesL s P)) ∧ Below w.heap.size w w' := by
  have hn := (near_is (s := s) (P := P) s.H).2.1
  have hh2 := fl.ok.h2
  have HR : Hid (∀ (wx : World) (n : Int), Below w.heap.size w wx → -20 ≤ n → n ≤ 20 → Calls Tryz.prog 157 #[.pointer (some ⟨bs, 0, none⟩), .slice (some ⟨po, 0, none⟩) H pc, .int .i64 n] wx fun e w' => e = .returned (bstr (repaintL s P n)) ∧ Below wx.heap.size wx w') := fun wx n hb a b => qRepaint bs bg g N s t po pc lb lc H P n wx (hp.below hb) tie (pic.below hb) hs hpc (tab.below hb) (Nat.le_trans h2 hb.size) fl hP a b
  have HN : Hid (∀ (wx : World), Below w.heap.size w wx → Calls Tryz.prog 158 #[.pointer (some ⟨bs, 0, none⟩), .slice (some ⟨po, 0, none⟩) H pc] wx fun e w' => e = .returned (.int .i64 (nearN s P s.H).1) ∧ Below wx.heap.size wx w') := fun wx hb => qNearest bs bg g N s t po pc lb lc H P wx (hp.below hb) (pic.below hb) hs fl.ok
  have hdef : bytesL s P = if (nearN s P s.H).1 ≠ 0 ∧ (repaintL s P (nearN s P s.H).1).length < (repaintL s P 0).length then repaintL s P (nearN s P s.H).1 else repaintL s P 0 := rfl
  rw [hdef]
  obtain ⟨nn, hnn⟩ : ∃ nn, (nearN s P s.H).1 = nn := ⟨_, rfl⟩
  rw [hnn] at hn HN ⊢
  obtain ⟨r0, hr0⟩ : ∃ r0, repaintL s P 0 = r0 := ⟨_, rfl⟩
  obtain ⟨rn, hrn⟩ : ∃ rn, repaintL s P nn = rn := ⟨_, rfl⟩
  rw [hr0, hrn]
  have Hr0 : Hid (repaintL s P 0 = r0) := hr0
  have Hrn : Hid (repaintL s P nn = rn) := hrn
  have Hnn : Hid (-20 ≤ nn ∧ nn ≤ 20) := ⟨by omega, by omega⟩
  clear hp tie pic hs hpc tab h2 fl hP hn hh2 hdef hnn hr0 hrn
  go_enter Tryz.func123, Tryz.ntmps123
  go_wp2_with fail
  go_at_call 157
  refine (HR.out w 0 (Below.refl _ _) (by omega) (by omega)).mono ?_
  rw [Hr0.out]
  rintro e w1 ⟨rfl, hb1⟩
  have HB1 : Hid (Below w.heap.size w w1) := hb1
  clear hb1
  go_wp2_with fail
  go_at_call 158
  refine (HN.out w1 HB1.out).mono ?_
  rintro e w2 ⟨rfl, hb2⟩
  have HB2 : Hid (Below w.heap.size w w2) := HB1.out.trans (hb2.mono HB1.out.size)
  clear hb2
  by_cases h0 : nn = 0
  · subst h0
    go_wp2_with fail
    go_ret
    exact ⟨by simp, HB2.out⟩
  · have hb0 : (nn != 0) = true := by simpa using h0
    have H0 : Hid (nn ≠ 0) := h0
    clear h0
    go_wp2_with fail
    go_at_call 157
    refine (HR.out w2 nn HB2.out Hnn.out.1 Hnn.out.2).mono ?_
    rw [Hrn.out]
    rintro e w3 ⟨rfl, hb3⟩
    have HB3 : Hid (Below w.heap.size w w3) := HB2.out.trans (hb3.mono HB2.out.size)
    have e1 : ((({ data := rn.toArray } : ByteArray).size : Nat) : Int) = (rn.length : Int) := rfl
    have e2 : ((({ data := r0.toArray } : ByteArray).size : Nat) : Int) = (r0.length : Int) := rfl
    clear hb3
    by_cases hl : rn.length < r0.length
    · have hl' : (rn.length : Int) < (r0.length : Int) := by omega
      go_wp2_with fail
      go_ret
      exact ⟨by first | rfl | (rw [if_pos ⟨H0.out, hl⟩]; rfl), HB3.out⟩
    · have hl' : ¬ ((rn.length : Int) < (r0.length : Int)) := by omega
      go_wp2_with fail
      go_ret
      exact ⟨by first | rfl | (rw [if_neg (fun q => hl q.2)]; rfl), HB3.out⟩
end Go.Proofs.YtjlfibhbfdckpaaGreatDoor

/- Flush: of the desk, of the program. -/
namespace Go.Proofs.YtjlfibhbfdckpaaGreatDoor
open Go.RowKit
attribute [local go_sem ↓] Go.wp_at_zero Go.wp_at_succ
/-- A desk that may be flushed. -/
structure FlOk (L : List Wn) (s : Rs) : Prop where
  fl : s.Fl
  pens : PensOk L
  fit : Fits L s.W s.H
section
variable {M : Mm} {L : List Wn} {last : Int} {N : Nat} {s : Rs} {t : Pt} {rk : Int → Nat} {K : Nat}
theorem FlOk.pic (f : FlOk L s) (T : Tree L rk K) {w : World} (h : DkAt w M L last N s t) {r : Wn} (hr : r ∈ L) (hr0 : r.n = 0) : PicOk s.W s.H (fun x y => picP L K r x y) := by
  obtain ⟨a, b⟩ := f.fit r hr hr0
  rw [← a, ← b]
  exact pic_ok T (h.winsOk f.pens) hr
set_option maxHeartbeats 4000000 in
set_option maxRecDepth 100000 in
theorem dFlush (T : Tree L rk K) (ok : DOk L last) (w : World) (h : DkAt w M L last N s t) (tie : Tie s.B t) (f : FlOk L s) (tab : Tabs w) (r : Wn) (hr : r ∈ L) (hr0 : r.n = 0) (b : List UInt8) (hb : bytesL s (fun x y => picP L K r x y) = b) :
    Calls Tryz.prog 61 #[.pointer (some ⟨M.t 1, 0, none⟩)] w fun e w' => e = .returned (bstr b) ∧ (∃ t', PrAt w' (M.t 2) (M.t 3) (M.t 4) N (feedR s b) t' ∧ Tie (feedR s b).B t') ∧ Keep (fun i => i = M.t 2 ∨ i = M.t 3 ∨ i = M.t 4) w w' := by
  have hP := f.pic T h hr hr0
  obtain ⟨eW, eH⟩ := f.fit r hr hr0
  obtain ⟨P, hPd⟩ : ∃ P : Nat → Nat → Cel, (fun x y : Nat => picP L K r x y) = P := ⟨_, rfl⟩
  rw [hPd] at hP hb
  have Hb : Hid (bytesL s P = b) := hb
  have Hlen : Hid (b.length ≤ 100000) := by
    have h1 := (bytes_ok f.fl hP).few
    have h2 : othersN s P 0 ≤ s.H * s.W := cnt_le _ _
    have h3 : s.H * s.W ≤ 20 * 40 := Nat.mul_le_mul f.fl.ok.h2 f.fl.ok.w2
    rw [hb] at h1
    show _ ≤ _
    omega
  have k2 : w.cell? ⟨M.t 1, 2, none⟩ = some (.pointer (some ⟨M.t 2, 0, none⟩)) := cell_of_block h.b1 2
  have z1 : M.t 1 < w.heap.size := World.block_lt_of_cell? _ _ k2
  have t2 : ∀ k, k < 5 → 2 ≤ M.t k := fun k hk => h.two _ (own_top M L k hk)
  have HD : Hid (DkAt w M L last N s t ∧ Tie s.B t ∧ FlOk L s ∧ Tabs w ∧ Tree L rk K ∧ DOk L last ∧ r ∈ L ∧ r.n = 0 ∧ PicOk s.W s.H P ∧ r.W = s.W ∧ r.H = s.H) := ⟨h, tie, f, tab, T, ok, hr, hr0, hP, eW, eH⟩
  have Ht2 : Hid (∀ k, k < 5 → 2 ≤ M.t k) := t2
  have HPd : Hid ((fun x y : Nat => picP L K r x y) = P) := hPd
  clear h tie f tab T ok hr hr0 hP eW eH hPd hb t2
  go_enter Tryz.func61, Tryz.ntmps61
  go_wp2_with fail
  go_region_held3 (fun w' => w'.cell? ⟨M.t 1, 2, none⟩ = some (.pointer (some ⟨M.t 2, 0, none⟩))) (simp [*]) (first | (go_at_call 124; refine (qPicture HD.out.2.2.2.2.1 HD.out.2.2.2.2.2.1 _ (HD.out.1.below (by first | exact Below.refl _ _ | exact (Below.refl _ _).drew)) r HD.out.2.2.2.2.2.2.1 HD.out.2.2.2.2.2.2.2.1).mono ?_; rintro e w5 ⟨po, lb, rfl, pm, hb5⟩; have hb6 := below_drew' hb5; have e1 := hb6.cells (b := M.t 1) z1; have z5 : M.t 1 < w5.heap.size := Nat.lt_of_lt_of_le z1 hb6.size; have H5 : Hid (PcM w5 po lb (fun _ => r.W) r.W r.H P ∧ Below w.heap.size w w5) := ⟨by { rw [← HPd.out]; exact pm }, hb6⟩; clear pm hb5 hb6) | (go_at_call 123; refine (qBytes (M.t 2) (M.t 3) (M.t 4) N s t po r.H lb (fun _ => r.W) r.H P _ (HD.out.1.scr.below (by first | exact H5.out.2 | exact H5.out.2.drew)) HD.out.2.1 (by { rw [← HD.out.2.2.2.2.2.2.2.2.2.1]; exact H5.out.1 }) HD.out.2.2.2.2.2.2.2.2.2.2 (Nat.le_refl _) (HD.out.2.2.2.1.below (by first | exact H5.out.2 | exact H5.out.2.drew)) (by { have := Ht2.out 1 (by omega); have := z5; omega }) HD.out.2.2.1.fl HD.out.2.2.2.2.2.2.2.2.1).mono ?_; rw [Hb.out]; rintro e w6 ⟨rfl, hb7⟩; have e2 := hb7.cells (b := M.t 1) z5; have H6 : Hid (Below w.heap.size w w6) := H5.out.2.trans (hb7.mono H5.out.2.size); clear hb7))
  all_goals
    have k6 : w6.cell? ⟨M.t 1, 2, none⟩ = some (.pointer (some ⟨M.t 2, 0, none⟩)) := (H6.out.cells (b := M.t 1) z1 2).trans k2
    clear k2 e1 e2
    go_wp2_with fail
    go_at_call 62
    have q2 := Ht2.out 2 (by omega)
    have q3 := Ht2.out 3 (by omega)
    have q4 := Ht2.out 4 (by omega)
    refine (sFeed (M.t 2) (M.t 3) (M.t 4) N s t ⟨b.toArray⟩ w6 (HD.out.1.scr.below H6.out) HD.out.2.2.1.fl.ok (HD.out.2.2.2.1.below H6.out) HD.out.2.1 (by omega) (by omega) (by omega) (by omega) (by omega) (by omega) (by have := Hlen.out; show b.length ≤ _; omega)).mono ?_
    rintro e w7 ⟨rfl, ⟨t7, P7, tie7⟩, K7⟩
    have e2 : feedR s (⟨b.toArray⟩ : ByteArray).data.toList = feedR s b := by simp
    rw [e2] at P7 tie7
    have H7 : Hid ((∃ t', PrAt w7 (M.t 2) (M.t 3) (M.t 4) N (feedR s b) t' ∧ Tie (feedR s b).B t') ∧ Keep (fun i => i = M.t 2 ∨ i = M.t 3 ∨ i = M.t 4) w w7) := ⟨⟨t7, P7, tie7⟩, (Keep.below _ H6.out).trans K7 (fun _ _ q => q)⟩
    clear P7 tie7 K7 k6 e2 q2 q3 q4
    go_wp2_with fail
    go_ret
    exact ⟨rfl, H7.out⟩
set_option maxHeartbeats 4000000 in
theorem kFlush (T : Tree L rk K) (ok : DOk L last) (w : World) (h : DkAt w M L last N s t) (tie : Tie s.B t) (f : FlOk L s) (tab : Tabs w) (r : Wn) (hr : r ∈ L) (hr0 : r.n = 0) (b : List UInt8) (hb : bytesL s (fun x y => picP L K r x y) = b) :
    Calls Tryz.prog 21 #[.pointer (some ⟨M.t 0, 0, none⟩)] w fun e w' => ∃ t', Tie (feedR s b).B t' ∧ DPostG M L L last (feedR s b) t' w (bstr b) e w' := by
  have k0 : w.cell? ⟨M.t 0, 0, none⟩ = some (.pointer (some ⟨M.t 1, 0, none⟩)) := cell_of_block h.b0 0
  have HF : Hid (Calls Tryz.prog 61 #[.pointer (some ⟨M.t 1, 0, none⟩)] w fun e w' => e = .returned (bstr b) ∧ (∃ t', PrAt w' (M.t 2) (M.t 3) (M.t 4) N (feedR s b) t' ∧ Tie (feedR s b).B t') ∧ Keep (fun i => i = M.t 2 ∨ i = M.t 3 ∨ i = M.t 4) w w') := dFlush T ok w h tie f tab r hr hr0 b hb
  have HD : Hid (DkAt w M L last N s t) := h
  clear h tie f tab T ok hr hr0 hb
  go_enter Tryz.func21, Tryz.ntmps21
  go_wp2_with (first | (go_at_call 41; refine (kNone _ HD.out).mono ?_; rintro e w' ⟨rfl, hw'⟩; replace hw' := hw'.symm; subst hw'))
  go_at_call 61
  refine HF.out.mono ?_
  rintro e w7 ⟨rfl, ⟨t7, P7, tie7⟩, K7⟩
  have HP : Hid (∃ t', Tie (feedR s b).B t' ∧ DPostG M L L last (feedR s b) t' w (bstr b) (.returned (bstr b)) w7) := ⟨t7, tie7, HD.out.rescreen P7 K7 (.inl rfl) (bstr b)⟩
  clear P7 tie7 K7 k0 HF
  go_wp2_with fail
  go_ret
  exact HP.out
end
end Go.Proofs.YtjlfibhbfdckpaaGreatDoor

/- The statements with the program's own screen: flushes; two desks beside one another. -/
namespace Go.Proofs.YtjlfibhbfdckpaaGreatDoor
open Go.RowKit
attribute [local go_sem ↓] Go.wp_at_zero Go.wp_at_succ
theorem new_tie (W H : Nat) : Tie (newR W H).B newT := tie0 rfl rfl
theorem root_fits (W H : Nat) : Fits [rootW W H] W H := fun v hv _ => by
  obtain rfl : v = rootW W H := by simpa using hv
  exact ⟨rfl, rfl⟩
theorem root_flok {W H : Nat} (w1 : 1 ≤ W) (w2 : W ≤ 40) (h1 : 1 ≤ H) (h2 : H ≤ 20) : FlOk [rootW W H] (newR W H) := ⟨newR_fl w1 w2 h1 h2, pensOk_root W H, root_fits W H⟩
def flR : Wn := { rootW 2 1 with G := writeAll 2 1 0 Pn.plain 1 (runesG ⟨#[98]⟩ 1 0) (rootW 2 1).G }
def flL : List Wn := updL [rootW 2 1] 0 (fun u => { u with G := writeAll 2 1 0 Pn.plain 1 (runesG ⟨#[98]⟩ 1 0) (rootW 2 1).G })
theorem flL_eq : flL = [flR] := rfl
theorem fl_pic : picP flL 0 flR 1 0 = ⟨98, 0, Pn.plain⟩ := by kernel_rfl
theorem fl_tree : Tree flL (fun _ => 0) 0 := by
  rw [flL_eq]
  exact ⟨⟨flR, [], rfl, rfl, rfl, by simp⟩, by simp, by simp [flR, rootW], by simp⟩
theorem fl_ok : DOk flL 0 := ⟨⟨_, _, fl_tree⟩, by rw [flL_eq]; simp [flR, rootW], by rw [flL_eq]; simp, by rw [flL_eq]; simp [flR, rootW]⟩
theorem fl_flok : FlOk flL (newR 2 1) :=
  ⟨newR_fl (by omega) (by omega) (by omega) (by omega), (pensOk_root 2 1).upd 0 (fun u hu _ => by
    obtain rfl : u = rootW 2 1 := by simpa using hu
    exact Pens.writeAll plain_ok _ _ (pens_plain 2 1)), (root_fits 2 1).upd 0 (fun _ _ _ e => ⟨e, rfl, rfl⟩)⟩
theorem fl_some {M : Mm} {N : Nat} {t : Pt} {w : World} (h : DkAt w M flL 0 N (newR 2 1) t) : bytesL (newR 2 1) (fun x y => picP flL 0 flR x y) ≠ [] := fun e => by
  have hP := fl_flok.pic fl_tree h (r := flR) (by rw [flL_eq]; simp) rfl
  have h1 := (bytes_ok fl_flok.fl hP).re.eq 1 0 (by decide) (by decide)
  rw [e] at h1
  have h2 : (feedR (newR 2 1) []).G 1 0 = blk Pn.plain := rfl
  have h3 : picP flL 0 flR ((1 : Nat) : Int) ((0 : Nat) : Int) = ⟨98, 0, Pn.plain⟩ := fl_pic
  rw [h2, h3] at h1
  exact absurd (congrArg Cel.r h1) (by decide)
set_option maxRecDepth 100000 in
set_option maxHeartbeats 4000000 in
theorem kFlushes (w : World) (hw : 2 ≤ w.heap.size) (tab : Tabs w) :
    Calls Tryz.prog 13 #[] w fun e w' => e = .returned (.bool true) ∧ Below w.heap.size w w' := by
  have HT : Hid (Tabs w) := tab
  clear tab
  go_enter Tryz.func13, Tryz.ntmps13
  go_wp2_with fail
  go_at_call 44
  refine (kOpens w hw).mono ?_
  rintro e w0 ⟨rfl, hb0⟩
  have H0 : Hid (Below w.heap.size w w0) := hb0
  have hw0 : 2 ≤ w0.heap.size := Nat.le_trans hw hb0.size
  clear hb0
  go_wp2_with fail
  go_at_call 15
  refine (kNew 2 1 _ (by omega) (by omega) (by omega) (by omega) hw0).mono ?_
  rintro e wa ⟨M, rfl, D1, B1, O1⟩
  have HD1 : Hid (DkAt wa M [rootW 2 1] 0 (1 * 2) (newR 2 1) newT) := D1
  have HB1 : Hid (Below w.heap.size w wa) := H0.out.trans (B1.mono H0.out.size)
  have HO1 : Hid (∀ i, M.own [rootW 2 1] i → w.heap.size ≤ i) := fun i hi => Nat.le_trans H0.out.size (O1 i hi)
  clear D1 B1 O1
  go_wp2_with fail
  go_at_call 31
  refine (kWrite (ok_root 2 1) _ HD1.out (rootW 2 1) (by simp) 1 0 (by decide) ⟨#[98]⟩ (by decide) Pn.plain (by decide)).mono ?_
  rintro e wb ⟨M2, rfl, D2, t2, K2, O2⟩
  have HD2 : Hid (DkAt wb M2 flL 0 (1 * 2) (newR 2 1) newT) := D2
  have HB2 : Hid (Below w.heap.size w wb) := HB1.out.trans (K2.toBelow HB1.out.size (fun i hi q => by have := HO1.out i q; omega))
  have HO2 : Hid (∀ i, M2.own flL i → w.heap.size ≤ i) := fun i hi => by
    rcases O2 i hi with q | q
    · exact HO1.out i q
    · have := HB1.out.size; omega
  rw [← t2]
  clear D2 K2 O2 t2
  go_wp2_with fail
  go_at_call 21
  obtain ⟨bl, hbl⟩ : ∃ bl, bytesL (newR 2 1) (fun x y => picP flL 0 flR x y) = bl := ⟨_, rfl⟩
  have hne : bl.isEmpty = false := by
    have := fl_some HD2.out
    rw [hbl] at this
    simpa using this
  refine (kFlush fl_tree fl_ok _ HD2.out (new_tie 2 1) fl_flok (HT.out.below HB2.out) flR (by rw [flL_eq]; simp) rfl bl hbl).mono ?_
  rintro e wc ⟨t', _, M', N', rfl, _, _, K3, _⟩
  have HB3 : Hid (Below w.heap.size w wc) := HB2.out.trans (K3.toBelow HB2.out.size (fun i hi q => by have := HO2.out i q; omega))
  clear K3 hbl
  go_wp2_with fail
  go_ret
  exact ⟨rfl, HB3.out⟩
theorem DkAt.keepK {F : Nat → Prop} {w w' : World} {M : Mm} {L : List Wn} {last : Int} {N : Nat} {s : Rs} {t : Pt} (h : DkAt w M L last N s t) (k : Keep F w w') (hF : ∀ i, M.own L i → ¬ F i) : DkAt w' M L last N s t := h.same (fun i hi => k.block i (h.lt hi) (hF i hi))
/-- Two desks beside one another. -/
structure U2 (w0 : World) (da db : Nat) (La : List Wn) (na : Int) (sa : Rs) (Lb : List Wn) (nb : Int) (sb : Rs) (w : World) : Prop where
  ex : ∃ Ma Mb Na Nb ta tb, Ma.t 0 = da ∧ Mb.t 0 = db ∧ DkAt w Ma La na Na sa ta ∧ DkAt w Mb Lb nb Nb sb tb ∧ Tie sa.B ta ∧ Tie sb.B tb ∧ (∀ i, Ma.own La i → ¬ Mb.own Lb i) ∧ (∀ i, Ma.own La i → w0.heap.size ≤ i) ∧ (∀ i, Mb.own Lb i → w0.heap.size ≤ i)
  bel : Below w0.heap.size w0 w
  tab : Tabs w0
section
variable {w0 w w' : World} {da db : Nat} {La Lb : List Wn} {na nb : Int} {sa sb : Rs}
theorem U2.swap (h : U2 w0 da db La na sa Lb nb sb w) : U2 w0 db da Lb nb sb La na sa w := by
  obtain ⟨⟨Ma, Mb, Na, Nb, ta, tb, e1, e2, D1, D2, t1, t2, dj, oa, ob⟩, b, t⟩ := h
  exact ⟨⟨Mb, Ma, Nb, Na, tb, ta, e2, e1, D2, D1, t2, t1, fun i hb ha => dj i ha hb, ob, oa⟩, b, t⟩
theorem U2.below (h : U2 w0 da db La na sa Lb nb sb w) (hb : Below w.heap.size w w') : U2 w0 da db La na sa Lb nb sb w' := by
  obtain ⟨⟨Ma, Mb, Na, Nb, ta, tb, e1, e2, D1, D2, t1, t2, dj, oa, ob⟩, b, t⟩ := h
  exact ⟨⟨Ma, Mb, Na, Nb, ta, tb, e1, e2, D1.below hb, D2.below hb, t1, t2, dj, oa, ob⟩, b.trans (hb.mono b.size), t⟩
theorem U2.step {f : Nat} {a : Option Addr → Array Value} {L' : List Wn} {n' : Int} {s' : Rs} {r : Value} (h : U2 w0 da db La na sa Lb nb sb w)
    (hx : ∀ (M : Mm) (N : Nat) (t : Pt), Tie sa.B t → DkAt w M La na N sa t → Tabs w → Calls Tryz.prog f (a (some ⟨M.t 0, 0, none⟩)) w fun e w' => ∃ t', Tie s'.B t' ∧ DPostG M La L' n' s' t' w r e w') :
    Calls Tryz.prog f (a (some ⟨da, 0, none⟩)) w fun e w' => e = .returned r ∧ U2 w0 da db L' n' s' Lb nb sb w' := by
  obtain ⟨⟨Ma, Mb, Na, Nb, ta, tb, rfl, e2, D1, D2, t1, t2, dj, oa, ob⟩, b, tb0⟩ := h
  refine (hx Ma Na ta t1 D1 (tb0.below b)).mono ?_
  rintro e w' ⟨t', tie', M', N', rfl, D, ht, K, O⟩
  have sz := b.size
  refine ⟨rfl, ⟨⟨M', Mb, N', Nb, t', tb, ht, e2, D, D2.keepK K (fun i hi q => dj i q hi), tie', t2, fun i hi q => ?_, fun i hi => ?_, ob⟩, b.trans (K.toBelow sz (fun i hi q => by have := oa i q; omega)), tb0⟩⟩
  · rcases O i hi with e | e
    · exact dj i e q
    · have := D2.lt q; omega
  · rcases O i hi with e | e
    · exact oa i e
    · omega
end
end Go.Proofs.YtjlfibhbfdckpaaGreatDoor

/- The statement of what is undone. -/
namespace Go.Proofs.YtjlfibhbfdckpaaGreatDoor
open Go.RowKit
attribute [local go_sem ↓] Go.wp_at_zero Go.wp_at_succ
def noAc : Ac := ⟨0, 0, 0, 0, 0, 0, ByteArray.empty, Pn.plain, false⟩
/-- What the walk is told of the script. -/
def AcsIn (w : World) (a : Option Addr) (n : Nat) (cs : List Ac) : Prop :=
  ∀ k, k < n → (cs.getD k noAc).In ∧ ∃ b off, a = some ⟨b, off, none⟩ ∧ b < w.heap.size ∧ ∀ j, j < 13 → w.cell? ⟨b, off + k * 13 + j, none⟩ = (cs.getD k noAc).arr[j]?
/-- .. and of numbers. -/
def IntsIn (w : World) (a : Option Addr) (n : Nat) (l : List Int) : Prop :=
  ∀ k, k < n → Rng (l.getD k 0) ∧ ∃ b off, a = some ⟨b, off, none⟩ ∧ b < w.heap.size ∧ w.cell? ⟨b, off + k, none⟩ = some (.int .i64 (l.getD k 0))
/-- What Flush does to one of two desks. -/
theorem U2.flush {w0 w : World} {da db : Nat} {L : List Wn} {n : Int} {s : Rs} {Lb : List Wn} {nb : Int} {sb : Rs} {rk : Int → Nat} {K : Nat} (h : U2 w0 da db L n s Lb nb sb w) (T : Tree L rk K) (ok : DOk L n) (f : FlOk L s) {r : Wn} (hr : r ∈ L) (hr0 : r.n = 0) (b : List UInt8) (hb : bytesL s (fun x y => picP L K r x y) = b) :
    Calls Tryz.prog 21 #[.pointer (some ⟨da, 0, none⟩)] w fun e w' => e = .returned (bstr b) ∧ U2 w0 da db L n (feedR s b) Lb nb sb w' :=
  h.step (a := fun p => #[.pointer p]) (fun _ _ _ tie D tab => kFlush T ok w D tie f tab r hr hr0 b hb)
/-- What is left of a desk by Flush. -/
theorem FlOk.flush {w : World} {M : Mm} {L : List Wn} {last : Int} {N : Nat} {s : Rs} {t : Pt} {rk : Int → Nat} {K : Nat} (f : FlOk L s) (T : Tree L rk K) (h : DkAt w M L last N s t) {r : Wn} (hr : r ∈ L) (hr0 : r.n = 0) {b : List UInt8} (hb : bytesL s (fun x y => picP L K r x y) = b) : FlOk L (feedR s b) := by
  have hq := (bytes_ok f.fl (f.pic T h hr hr0)).re
  rw [hb] at hq
  exact ⟨hq.fl, f.pens, by rw [hq.W, hq.H]; exact f.fit⟩
/-- Two desks that hold the same. -/
structure Ue (w0 : World) (da db : Nat) (k : Nat) (w : World) : Prop where
  ex : ∃ (L : List Wn) (last : Int) (s : Rs), 0 ≤ last ∧ last ≤ (k : Int) ∧ DOk L last ∧ FlOk L s ∧ U2 w0 da db L last s L last s w
end Go.Proofs.YtjlfibhbfdckpaaGreatDoor

/- Cards: scripts of steps and numbers, opened. -/
namespace Go.Proofs.YtjlfibhbfdckpaaGreatDoor.acts
open Go.ChangeShapes Go.WideShapes Go.ChangeAt Go.RowKit
open Go.ChangeMaps (open_string shut_string)
theorem nine {α : Type} {l : List α} (h : l.length = 9) : ∃ a b c d e f g i j, l = [a, b, c, d, e, f, g, i, j] := by
  match l, h with
  | [a, b, c, d, e, f, g, i, j], _ => exact ⟨a, b, c, d, e, f, g, i, j, rfl⟩
theorem five {α : Type} {l : List α} (h : l.length = 5) : ∃ a b c d e, l = [a, b, c, d, e] := by
  match l, h with
  | [a, b, c, d, e], _ => exact ⟨a, b, c, d, e, rfl⟩
theorem thirteen {α : Type} {l : List α} (h : l.length = 13) : ∃ a b c d e f g i j k m n o, l = [a, b, c, d, e, f, g, i, j, k, m, n, o] := by
  match l, h with
  | [a, b, c, d, e, f, g, i, j, k, m, n, o], _ => exact ⟨a, b, c, d, e, f, g, i, j, k, m, n, o, rfl⟩
theorem cInt : Tryz.prog.cellsOf 3 = 1 := by kernel_rfl
theorem cStr : Tryz.prog.cellsOf 9 = 1 := by kernel_rfl
theorem cBool : Tryz.prog.cellsOf 4 = 1 := by kernel_rfl
theorem cPen : Tryz.prog.cellsOf 33 = 5 := by kernel_rfl
theorem cAc : Tryz.prog.cellsOf 53 = 13 := by kernel_rfl
section
variable {H : Type} {enc : TypeId × Value → H} {base : Nat} {sp : Nat → Bool} {held : Bool} {W : World} {a : Option Addr} {n cap : Nat} {d : DataW H} {p : List MemPlace}
theorem pen_at {fuel : Nat} {cs : List Value} {y : DataW H × List MemPlace} (h : DataW.trod enc Tryz.prog W base sp held fuel 33 cs = some y) : ∃ q : Pn, cs = [.int .i64 q.f, .int .i64 q.b, .bool q.bo, .bool q.un, .bool q.re] ∧ Rng q.f ∧ Rng q.b := by
  obtain ⟨xs, m, _, _, hl, hz, he⟩ := DataW.trod_struct Tryz.underlying33 h
  rw [cPen] at hl
  have hz' : xs.length = 5 := by simpa using hz
  obtain ⟨x0, x1, x2, x3, x4, rfl⟩ := five hz'
  obtain ⟨c0, c1, c2, c3, c4, rfl⟩ := five hl
  have g0 := he 0 _ rfl
  have g1 := he 1 _ rfl
  have g2 := he 2 _ rfl
  have g3 := he 3 _ rfl
  have g4 := he 4 _ rfl
  simp [cInt, cBool] at g0 g1 g2 g3 g4
  obtain ⟨k0, e0, _, w0⟩ := DataW.trod_int Tryz.underlying3 g0
  obtain ⟨k1, e1, _, w1⟩ := DataW.trod_int Tryz.underlying3 g1
  obtain ⟨k2, e2, _⟩ := DataW.trod_bool Tryz.underlying4 g2
  obtain ⟨k3, e3, _⟩ := DataW.trod_bool Tryz.underlying4 g3
  obtain ⟨k4, e4, _⟩ := DataW.trod_bool Tryz.underlying4 g4
  simp only [List.cons.injEq, and_true] at e0 e1 e2 e3 e4
  subst e0 e1 e2 e3 e4
  exact ⟨⟨k0, k1, k2, k3, k4⟩, rfl, bounds_i64 w0, bounds_i64 w1⟩
set_option maxRecDepth 10000 in
theorem ac_at {fuel : Nat} {cs : List Value} {y : DataW H × List MemPlace} (h : DataW.trod enc Tryz.prog W base sp held fuel 53 cs = some y) : ∃ o : Ac, cs = o.arr.toList ∧ o.In := by
  obtain ⟨xs, m, _, _, hl, hz, he⟩ := DataW.trod_struct Tryz.underlying53 h
  rw [cAc] at hl
  have hz' : xs.length = 9 := by simpa using hz
  obtain ⟨x0, x1, x2, x3, x4, x5, x6, x7, x8, rfl⟩ := nine hz'
  obtain ⟨c0, c1, c2, c3, c4, c5, c6, c7, c8, c9, c10, c11, c12, rfl⟩ := thirteen hl
  have g0 := he 0 _ rfl
  have g1 := he 1 _ rfl
  have g2 := he 2 _ rfl
  have g3 := he 3 _ rfl
  have g4 := he 4 _ rfl
  have g5 := he 5 _ rfl
  have g6 := he 6 _ rfl
  have g7 := he 7 _ rfl
  have g8 := he 8 _ rfl
  simp [cInt, cStr, cPen, cBool] at g0 g1 g2 g3 g4 g5 g6 g7 g8
  obtain ⟨k0, e0, _, w0⟩ := DataW.trod_int Tryz.underlying3 g0
  obtain ⟨k1, e1, _, w1⟩ := DataW.trod_int Tryz.underlying3 g1
  obtain ⟨k2, e2, _, w2⟩ := DataW.trod_int Tryz.underlying3 g2
  obtain ⟨k3, e3, _, w3⟩ := DataW.trod_int Tryz.underlying3 g3
  obtain ⟨k4, e4, _, w4⟩ := DataW.trod_int Tryz.underlying3 g4
  obtain ⟨k5, e5, _, w5⟩ := DataW.trod_int Tryz.underlying3 g5
  obtain ⟨s6, e6, _, w6⟩ := DataW.trod_string Tryz.underlying9 g6
  obtain ⟨q, e7, f1, f2⟩ := pen_at g7
  obtain ⟨k8, e8, _⟩ := DataW.trod_bool Tryz.underlying4 g8
  simp only [List.cons.injEq, and_true] at e0 e1 e2 e3 e4 e5 e6 e7 e8
  obtain ⟨y0, y1, y2, y3, y4⟩ := e7
  subst e0 e1 e2 e3 e4 e5 e6 e8 y0 y1 y2 y3 y4
  unfold maxLen at w6
  exact ⟨⟨k0, k1, k2, k3, k4, k5, s6, q, k8⟩, rfl, ⟨bounds_i64 w0, bounds_i64 w1, bounds_i64 w2, bounds_i64 w3, bounds_i64 w4, bounds_i64 w5, f1, f2, by show s6.size ≤ _; omega⟩⟩
theorem acs_in (h : DataW.Trod enc Tryz.prog W base (fun _ => true) held 44 (.slice a n cap) d p) : ∃ cs, AcsIn W a n cs := by
  obtain ⟨fuel, hf⟩ := h
  rcases DataW.trod_slice Tryz.underlying44 hf with ⟨hcs, _⟩ | ⟨x, l, c, elems, rest, m, _, hcs, hx, _, hl, hm, hlen, hel, _, _⟩
  · simp [Value.cells] at hcs
    obtain ⟨rfl, rfl, rfl⟩ := hcs
    exact ⟨[], fun k hk => by omega⟩
  · simp [Value.cells] at hcs
    obtain ⟨rfl, rfl, rfl⟩ := hcs
    rw [cAc] at hel
    have each : ∀ i, i < n → ∃ o : Ac, (∀ j, j < 13 → W.cell? ((x.add (i * 13)).add j) = o.arr.toList[j]?) ∧ o.In := by
      intro i hi
      have hi' : i < elems.length := by omega
      have h2 := hel i hi
      rw [List.getElem?_eq_getElem hi', Option.bind_eq_some_iff] at h2
      obtain ⟨cs, h3, h4⟩ := h2
      obtain ⟨o, rfl, hw⟩ := ac_at h4
      exact ⟨o, fun j hj => (World.cells?_some h3).2.2 j hj, hw⟩
    classical
    have hget : ∀ (k : Nat) (hk : k < n), ((List.range n).map (fun i => if h : i < n then Classical.choose (each i h) else noAc)).getD k noAc = Classical.choose (each k hk) := by
      intro k hk
      rw [List.getD_eq_getElem?_getD, List.getElem?_map, List.getElem?_range hk]
      simp [hk]
    refine ⟨(List.range n).map (fun i => if h : i < n then Classical.choose (each i h) else noAc), fun k hk => ?_⟩
    obtain ⟨hc, hw⟩ := Classical.choose_spec (each k hk)
    have h00 := (Classical.choose_spec (each 0 (by omega))).1 0 (by omega)
    rw [hget k hk]
    clear hget
    generalize Classical.choose (each k hk) = o at hc hw ⊢
    obtain ⟨b, off, spot⟩ := x
    have hspot : spot = none := by simpa [Addr.add] using World.cell?_spot h00
    subst hspot
    have hcc : ∀ j, j < 13 → W.cell? ⟨b, off + k * 13 + j, none⟩ = o.arr[j]? := fun j hj => by
      have := hc j hj
      rw [Go.WideShapes.add_plain, Go.WideShapes.add_plain] at this
      rw [this]
      simp
    have h0 : W.cell? ⟨b, off + k * 13 + 0, none⟩ = some (.int .i64 o.kd) := (hcc 0 (by omega)).trans rfl
    exact ⟨hw, b, off, rfl, World.block_lt_of_cell? _ _ h0, hcc⟩
theorem ints_in (h : DataW.Trod enc Tryz.prog W base (fun _ => true) held 45 (.slice a n cap) d p) : ∃ l, IntsIn W a n l := by
  obtain ⟨fuel, hf⟩ := h
  rcases DataW.trod_slice Tryz.underlying45 hf with ⟨hcs, _⟩ | ⟨x, l, c, elems, rest, m, _, hcs, hx, _, hl, hm, hlen, hel, _, _⟩
  · simp [Value.cells] at hcs
    obtain ⟨rfl, rfl, rfl⟩ := hcs
    exact ⟨[], fun k hk => by omega⟩
  · simp [Value.cells] at hcs
    obtain ⟨rfl, rfl, rfl⟩ := hcs
    rw [cInt] at hel
    have each : ∀ i, i < n → ∃ z : Int, W.cell? ((x.add (i * 1)).add 0) = some (.int .i64 z) ∧ Rng z := by
      intro i hi
      have hi' : i < elems.length := by omega
      have h2 := hel i hi
      rw [List.getElem?_eq_getElem hi', Option.bind_eq_some_iff] at h2
      obtain ⟨cs, h3, h4⟩ := h2
      obtain ⟨z, rfl, _, hw⟩ := DataW.trod_int Tryz.underlying3 h4
      exact ⟨z, (World.cells?_some h3).2.2 0 (by omega), bounds_i64 hw⟩
    classical
    have hget : ∀ (k : Nat) (hk : k < n), ((List.range n).map (fun i => if h : i < n then Classical.choose (each i h) else (0 : Int))).getD k 0 = Classical.choose (each k hk) := by
      intro k hk
      rw [List.getD_eq_getElem?_getD, List.getElem?_map, List.getElem?_range hk]
      simp [hk]
    refine ⟨(List.range n).map (fun i => if h : i < n then Classical.choose (each i h) else (0 : Int)), fun k hk => ?_⟩
    obtain ⟨hc, hw⟩ := Classical.choose_spec (each k hk)
    have h00 := (Classical.choose_spec (each 0 (by omega))).1
    rw [hget k hk]
    clear hget
    generalize Classical.choose (each k hk) = z at hc hw ⊢
    obtain ⟨b, off, spot⟩ := x
    have hspot : spot = none := by simpa [Addr.add] using World.cell?_spot h00
    subst hspot
    have hcc : W.cell? ⟨b, off + k, none⟩ = some (.int .i64 z) := by
      have := hc
      rw [Go.WideShapes.add_plain, Go.WideShapes.add_plain] at this
      simpa using this
    exact ⟨hw, b, off, rfl, World.block_lt_of_cell? _ _ hcc, hcc⟩
end
end Go.Proofs.YtjlfibhbfdckpaaGreatDoor.acts
