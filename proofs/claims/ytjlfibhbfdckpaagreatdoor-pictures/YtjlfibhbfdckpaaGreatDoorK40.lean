/- Texts of the proof, one behind the other: RdS. -/
import Derived.Test.YtjlfibhbfdckpaaGreatDoorK29
import Derived.Test.YtjlfibhbfdckpaaGreatDoorK32
import Derived.Test.YtjlfibhbfdckpaaGreatDoorK39
import Derived.Deep.RegionHeld3
/- The document's desk: Write. -/
namespace Go.Proofs.YtjlfibhbfdckpaaGreatDoor
open Go.RowKit
open Wd (wd)
attribute [local go_sem ↓] Go.wp_at_zero Go.wp_at_succ
theorem decN_le (n b0 b1 b2 b3 : Nat) (h0 : b0 < 256) : (decN n b0 b1 b2 b3).1 ≤ 2097151 := by
  unfold decN
  repeat' split
  all_goals (dsimp only; omega)
theorem runesG_le (s : ByteArray) : ∀ (f pos : Nat), ∀ r ∈ runesG s f pos, 0 ≤ r ∧ r ≤ 2097151 := by
  intro f
  induction f with
  | zero => intro pos r hr; simp [runesG] at hr
  | succ f ih =>
    intro pos r hr
    unfold runesG at hr
    split at hr
    · rcases List.mem_cons.1 hr with e | hr
      · split at e
        · omega
        · have := decN_le (s.size - pos) (s.get! pos).toNat (s.get! (pos + 1)).toNat (s.get! (pos + 2)).toNat (s.get! (pos + 3)).toNat (s.get! pos).toNat_lt
          rw [decode_decN] at e
          omega
      · exact ih _ r hr
    · simp at hr
section
variable {R : Rm} {L : List Wn} {last : Int}
set_option maxRecDepth 10000 in
set_option maxHeartbeats 2000000 in
theorem rdWrite (ok : DOk L last) (w : World) (h : RkAt w R L last) (v : Wn) (j : Nat) (hj : L[j]? = some v) (hne : ∀ i u, i < j → L[i]? = some u → u.n ≠ v.n) (x y : Int) (hpl : placeB x y = true) (b : ByteArray) (hb : b.size ≤ 200) (p : Pn) (hpn : penB p = true) :
    Calls Tryz.prog 32 #[.pointer (some ⟨R.d, 0, none⟩), .int .i64 v.n, .int .i64 x, .int .i64 y, .string b, p.agg] w (RkPost R L (updL L v.n (fun u => { u with G := writeAll v.W v.H y p x (runesG b b.size 0) v.G })) last w (.int .i64 0)) := by
  have hrle := runesG_le b b.size 0
  have hrok := runesG_ok b b.size 0
  obtain ⟨rl, hrl⟩ : ∃ rl, runesG b b.size 0 = rl := ⟨_, rfl⟩
  rw [hrl] at hrle hrok ⊢
  have Hrl : Hid (runesG b b.size 0 = rl) := hrl
  have Hle : Hid (∀ r ∈ rl, 0 ≤ r ∧ r ≤ 2097151) := hrle
  have Hrk : Hid (∀ r ∈ rl, wd r = 1 ∨ wd r = 2) := hrok
  clear hrle hrok hrl
  have hv : v ∈ L := List.mem_of_getElem? hj
  have hb1 : Below w.heap.size w (w.alloc (.cells #[.int .i64 p.f, .int .i64 p.b, .bool p.bo, .bool p.un, .bool p.re] 33)) := (Below.refl _ _).alloc (Nat.le_refl _) _
  have HRa : Hid (RkAt (w.alloc (.cells #[.int .i64 p.f, .int .i64 p.b, .bool p.bo, .bool p.un, .bool p.re] 33)) R L last) := h.below hb1
  have P1 := pen_new w p 33
  have H : Hid (Calls Tryz.prog 79 #[.pointer (some ⟨R.d, 0, none⟩), .int .i64 v.n] (w.alloc (.cells #[.int .i64 p.f, .int .i64 p.b, .bool p.bo, .bool p.un, .bool p.re] 33)) fun e w' => e = .returned (.int .i64 j) ∧ w' = (w.alloc (.cells #[.int .i64 p.f, .int .i64 p.b, .bool p.bo, .bool p.un, .bool p.re] 33))) := rdAtIn ok _ HRa.out v j hj hne
  obtain ⟨p0, p1, p2, p3, p4⟩ := id P1
  have hx := placeB_iff.1 hpl
  have hjl : j < L.length := (List.getElem?_eq_some_iff.1 hj).1
  have hjl' : (j : Int) < (L.length : Int) := by omega
  have hj1 : ¬ (j : Int) < 0 := by omega
  have lg := h.lt (rown_g R hv)
  have hb' : ¬ (200 : Int) < (b.size : Int) := by omega
  have Hj : Hid (L[j]? = some v) := hj
  clear h hj hne
  go_enter Tryz.func32, Tryz.ntmps32
  go_wp2_with (first | (go_at_call 79; refine (H.out).mono ?_; rintro e w' ⟨rfl, hw'⟩; replace hw' := hw'.symm; subst hw') | (go_at_call 80; refine (rdPlace _ _ _).mono ?_; rintro e w' ⟨rfl, hw'⟩; replace hw' := hw'.symm; subst hw'))
  go_at_call 81
  refine (rdPen p _).mono ?_
  rw [hpn]
  rintro e wb ⟨rfl, hbb⟩
  have HRb : Hid (RkAt wb R L last) := HRa.out.below hbb
  have P2 : PenAt wb w.heap.size 0 p := P1.same (hbb.block _ P1.lt)
  have K2 : Hid (Below w.heap.size w wb) := hb1.trans (hbb.mono hb1.size)
  clear p0 p1 p2 p3 p4 P1 hbb HRa hb1 H
  go_wp2_with fail
  go_at_call 82
  refine (rdLetters b _ hb).mono ?_
  rw [Hrl.out]
  rintro e wc ⟨lv, rfl, hrow, hr2, hbc⟩
  have HRc : Hid (RkAt wc R L last) := HRb.out.below hbc
  have P3 : PenAt wc w.heap.size 0 p := P2.same (hbc.block _ P2.lt)
  have K3 : Hid (Below w.heap.size w wc) := K2.out.trans (hbc.mono K2.out.size)
  have Hrow : Hid (wc.ownsRow wb.heap.size 21 1 lv rl.length (rvals rl)) := hrow
  have lgb : R.g v.n < wb.heap.size := HRb.out.lt (rown_g R hv)
  have hlen : ∃ a cap, lv = .slice a rl.length cap := by
    rcases hrow.2 with ⟨e, e2⟩ | ⟨g, cap, cur, e, _⟩
    · exact ⟨none, 0, by rw [e, e2]⟩
    · exact ⟨_, cap, e⟩
  obtain ⟨la, lcap, rfl⟩ := hlen
  clear hrow hbc P2 K2 HRb
  obtain ⟨g, cap, hl, hw, hfz, _⟩ := HRc.out.sl ok.one
  have d0 := HRc.out.d0
  rw [hl] at d0
  obtain ⟨c0, c1, c2, c3, c4, c5⟩ := hw j v Hj.out
  have ngd : R.d ≠ R.g v.n := HRc.out.ne (p := .top 0) (q := .win v.n 1) (show 0 < 2 by omega) ⟨by omega, v, hv, rfl⟩ rfl rfl (by simp)
  have ngg : g ≠ R.g v.n := HRc.out.ne (p := .top 1) (q := .win v.n 1) (show 1 < 2 by omega) ⟨by omega, v, hv, rfl⟩ (by show R.l.ownBlock = _; rw [hl]; rfl) rfl (by simp)
  have ldd : R.d < wc.heap.size := HRc.out.lt (rown_d R L)
  have ldg : g < wc.heap.size := HRc.out.lt (rown_l R L (by rw [hl]; rfl))
  clear hw hl c0 c1 c2 c3 c4
  go_wp2_with fail
  go_loopw [2, 17] (fun xv kv w' => ∃ (k : Nat) (xx : Int) (G : Nat → Nat → Cel), k ≤ rl.length ∧ xv = .int .i64 xx ∧ kv = .int .i64 k ∧ -1000 ≤ xx ∧ xx ≤ 1000 + 2 * k ∧ Wf v.W v.H G ∧ writeAll v.W v.H y p xx (rl.drop k) G = writeAll v.W v.H y p x rl v.G ∧ Cels w' (R.c v.n) (R.g v.n) (R.cap v.n) v.W v.H (v.H * v.W) G ∧ Keep (fun i => i = R.g v.n) wc w') (fun _ kv _ => 300 - (intOf kv).toNat)
  case atStart => exact ⟨0, x, v.G, by omega, rfl, rfl, by omega, by omega, HRc.out.wf v hv, rfl, HRc.out.win v hv, Keep.refl _ _⟩
  case round =>
    obtain ⟨k, xx, G, hk, rfl, rfl, hx0, hx1, hwf, hwa, hC, hK⟩ := hrel
    have HC : Hid (Cels wr (R.c v.n) (R.g v.n) (R.cap v.n) v.W v.H (v.H * v.W) G) := hC
    have HK : Hid (Keep (fun i => i = R.g v.n) wc wr) := hK
    have Hwf : Hid (Wf v.W v.H G) := hwf
    have Hwa : Hid (writeAll v.W v.H y p xx (rl.drop k) G = writeAll v.W v.H y p x rl v.G) := hwa
    clear hwa hwf hC
    by_cases hlt : k < rl.length
    · have hlt' : (k : Int) < (rl.length : Int) := by omega
      obtain ⟨r, hr⟩ : ∃ r, rl[k]? = some r := ⟨_, List.getElem?_eq_getElem hlt⟩
      obtain ⟨r0, r1⟩ := Hle.out r (List.mem_of_getElem? hr)
      have hwr := Hrk.out r (List.mem_of_getElem? hr)
      have hdr : rl.drop k = r :: rl.drop (k + 1) := by rw [List.drop_eq_getElem_cons hlt]; congr 1; rw [List.getElem?_eq_getElem hlt] at hr; injection hr
      obtain ⟨lg2, lc2, e2⟩ := row_slice Hrow.out (by omega)
      obtain ⟨rfl, rfl⟩ : la = some ⟨lg2, 0, none⟩ ∧ lcap = lc2 := by simpa using e2
      have hlg := (Hrow.out.lt lg2 rfl)
      have rc0 := rrow_cell Hrow.out k r hr
      have nlg : lg2 ≠ R.g v.n := by omega
      have rc : wr.cell? ⟨lg2, k, none⟩ = some (.int .i32 r) := (cell_same (hK.block _ hlg.2 nlg) k).trans rc0
      have d0r : wr.cell? ⟨R.d, 0, none⟩ = _ := (cell_same (hK.block _ ldd ngd) 0).trans d0
      have c5r : wr.cell? ⟨g, j * 6 + 5, none⟩ = _ := (cell_same (hK.block _ ldg ngg) (j * 6 + 5)).trans c5
      have Pr : PenAt wr w.heap.size 0 p := P3.same (hK.block _ P3.lt (by omega))
      obtain ⟨p0, p1, p2, p3, p4⟩ := id Pr
      simp only [Nat.zero_add] at p1 p2 p3 p4
      have HPr : Hid (PenAt wr w.heap.size 0 p) := Pr
      have lz := hK.size
      have Hz : Hid (R.d < wr.heap.size ∧ g < wr.heap.size ∧ lg2 < wr.heap.size ∧ w.heap.size < wr.heap.size ∧ w.heap.size ≠ R.g v.n) := ⟨by omega, by omega, by omega, Pr.lt, by omega⟩
      have HCd : Hid (Cels wr.drew (R.c v.n) (R.g v.n) (R.cap v.n) v.W v.H (v.H * v.W) G) := HC.out.same rfl rfl
      have Hwa2 : Hid (writeAll v.W v.H y p (xx + wd r) (rl.drop (k + 1)) (writeG v.W v.H G xx y r p) = writeAll v.W v.H y p x rl v.G) := by
        have := Hwa.out
        rw [hdr] at this
        exact this
      have hw2 : wd r ≤ 2 := by omega
      have hw1 : 1 ≤ wd r := by omega
      have sxx : IntKind.i64.wrap (xx + wd r) = xx + wd r := wrap_id _ (by omega) (by omega)
      have Hwr : Hid (wd r = 1 ∨ wd r = 2) := hwr
      clear hr rc0 hK e2 hdr Pr lz hwr
      go_wp2_with fail
      go_region_held3 (fun w' => w'.cell? ⟨R.d, 0, none⟩ = some (.slice (some ⟨g, 0, none⟩) L.length cap) ∧ w'.cell? ⟨g, j * 6 + 5, none⟩ = some (.pointer (some ⟨R.c v.n, 0, none⟩)) ∧ w'.cell? ⟨lg2, k, none⟩ = some (.int .i32 r) ∧ w'.cell? ⟨w.heap.size, 0, none⟩ = some (.int .i64 p.f) ∧ w'.cell? ⟨w.heap.size, 1, none⟩ = some (.int .i64 p.b) ∧ w'.cell? ⟨w.heap.size, 2, none⟩ = some (.bool p.bo) ∧ w'.cell? ⟨w.heap.size, 3, none⟩ = some (.bool p.un) ∧ w'.cell? ⟨w.heap.size, 4, none⟩ = some (.bool p.re)) (simp [*]) (first | (go_at_call 83; refine (refWrite (R.c v.n) (R.g v.n) (R.cap v.n) v.W v.H _ G xx y r p _ HCd.out Hwf.out (by omega) (by omega) (by omega) (by omega)).mono ?_; rintro e w6 ⟨rfl, C6, K6⟩; have HC6 : Hid (Cels w6 (R.c v.n) (R.g v.n) (R.cap v.n) v.W v.H (v.H * v.W) (writeG v.W v.H G xx y r p)) := C6; have HK6 : Hid (Keep (fun i => i = R.g v.n) wr w6) := ⟨K6.os, K6.tape, K6.output, K6.size, K6.block⟩; have t1 := (cell_same (HK6.out.block _ Hz.out.1 ngd) 0).trans d0r; have t2 := (cell_same (HK6.out.block _ Hz.out.2.1 ngg) (j * 6 + 5)).trans c5r; have t3 := (cell_same (HK6.out.block _ Hz.out.2.2.1 nlg) k).trans rc; obtain ⟨u0, u1, u2, u3, u4⟩ := HPr.out.same (HK6.out.block _ Hz.out.2.2.2.1 Hz.out.2.2.2.2); simp only [Nat.zero_add] at u1 u2 u3 u4; clear C6 K6))
      clear d0r c5r rc p0 p1 p2 p3 p4 t1 t2 u0 u1 u2 u3 u4
      go_wp2_with fail
      clear t3
      go_at_call 65
      refine (Wd.refWidth r _ (by omega) (by omega)).mono ?_
      rintro e w7 ⟨rfl, b7⟩
      have HC7 : Hid (Cels w7 (R.c v.n) (R.g v.n) (R.cap v.n) v.W v.H (v.H * v.W) (writeG v.W v.H G xx y r p)) := HC6.out.below b7
      have HK7 : Hid (Keep (fun i => i = R.g v.n) wc w7) := (HK.out.trans HK6.out (fun _ _ h => h)).trans (Keep.below _ b7) (fun _ _ h => h)
      clear b7 HC6 HK6
      go_wp2_with fail
      go_roundw
      case rel => exact ⟨k + 1, xx + wd r, writeG v.W v.H G xx y r p, by omega, rfl, by simp, by omega, by omega, Hwf.out.write xx y r p Hwr.out, Hwa2.out, HC7.out, HK7.out⟩
      case measure => simp [intOf]; omega
    · have hlt' : ¬ (k : Int) < (rl.length : Int) := by omega
      have HP : Hid (RkPost R L (updL L v.n (fun u => { u with G := writeAll v.W v.H y p x rl v.G })) last w (.int .i64 0) (.returned (.int .i64 0)) wr) := by
        have e0 : writeAll v.W v.H y p x rl v.G = G := by rw [← Hwa.out, List.drop_eq_nil_of_le (by omega)]; rfl
        rw [e0]
        obtain ⟨R', e1, D1, t1, k1, o1⟩ := HRc.out.setG ok hv v.W v.H (R.g v.n) (R.cap v.n) G Hwf.out HC.out (HK.out.mono (fun i e => .inr e)) (.inl rfl) (.int .i64 0)
        rw [updG_eq ok hv] at D1 o1
        exact ⟨R', e1, D1, t1, (Keep.below _ K3.out).trans k1 (fun _ _ h => h), fun i hi => (o1 i hi).imp id (fun h => by have := K3.out.size; omega)⟩
      go_wp2_with fail
      go_ret
      exact HP.out
end
end Go.Proofs.YtjlfibhbfdckpaaGreatDoor
