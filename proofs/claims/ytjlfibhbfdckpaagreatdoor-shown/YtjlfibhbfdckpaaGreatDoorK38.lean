/- Texts of the proof, one behind the other: VwC. -/
import Derived.Test.YtjlfibhbfdckpaaGreatDoorK37
import Derived.Deep.DeepCutAuto
/- The statement of what is shown. -/
namespace Go.Proofs.YtjlfibhbfdckpaaGreatDoor
open Go.RowKit
attribute [local go_sem ↓] Go.wp_at_zero Go.wp_at_succ
theorem tdiv_rng {z k : Int} (hk : 1 ≤ k) (h : Rng z) : Rng (z.tdiv k) := by
  obtain ⟨h0, h1⟩ := h
  rcases Int.le_total 0 z with h | h
  · have a := Int.tdiv_nonneg h (by omega : 0 ≤ k)
    have b : z.tdiv k ≤ z := Int.tdiv_le_self _ h
    exact ⟨by omega, by omega⟩
  · have a := Int.tdiv_nonneg (show 0 ≤ -z by omega) (by omega : 0 ≤ k)
    have b : (-z).tdiv k ≤ -z := Int.tdiv_le_self _ (by omega)
    rw [Int.neg_tdiv] at a b
    exact ⟨by omega, by omega⟩
/-- A desk and a screen that shows what the desk has told. -/
structure Ve (w0 : World) (pc da : Nat) (k : Nat) (w : World) : Prop where
  ex : ∃ (L : List Wn) (last : Int) (s : Rs), 0 ≤ last ∧ last ≤ (k : Int) ∧ DOk L last ∧ FlOk L s ∧ V2 w0 pc da 0 L last s s w
set_option maxRecDepth 100000 in
set_option maxHeartbeats 16000000 in
theorem lShown (x y : Int) (sa : Option Addr) (sn sc : Nat) (cs : List Ac) (la : Option Addr) (ln lc : Nat) (ls : List Int) (w : World) (hw : 2 ≤ w.heap.size) (tab : Tabs w) (hs : AcsIn w sa sn cs) (hl : IntsIn w la ln ls) (hx : Rng x) (hy : Rng y) :
    Calls Tryz.prog 5 #[.int .i64 x, .int .i64 y, .slice sa sn sc, .slice la ln lc] w fun e w' => e = .returned (.bool true) ∧ Below w.heap.size w w' := by
  have HT : Hid (Tabs w ∧ AcsIn w sa sn cs ∧ IntsIn w la ln ls ∧ Rng x ∧ Rng y) := ⟨tab, hs, hl, hx, hy⟩
  have lx := pkI_in x (n := 40) (by decide)
  have ly := pkI_in y (n := 20) (by decide)
  clear tab hs hl hx hy
  go_enter Tryz.func5, Tryz.ntmps5
  go_wp2_with fail
  go_at_call 13
  refine (kFlushes w hw HT.out.1).mono ?_
  rintro e w1 ⟨rfl, hb1⟩
  have HB1 : Hid (Below w.heap.size w w1) := hb1
  have hw1 : 2 ≤ w1.heap.size := Nat.le_trans hw hb1.size
  clear hb1
  go_wp2_with fail
  go_at_call 14
  refine (kScreen x y w1 hw1 HT.out.2.2.2.1.1 HT.out.2.2.2.1.2 HT.out.2.2.2.2.1 HT.out.2.2.2.2.2).mono ?_
  rintro e w2 ⟨pc, bs, bg, g, Nc, rfl, C2, B2, z1, z2, z3, z4⟩
  have H2 : Hid (CsAt w2 pc bs bg g Nc (newR (1 + pickK x 40) (1 + pickK y 20)) ∧ Below w1.heap.size w1 w2 ∧ w1.heap.size ≤ pc ∧ w1.heap.size ≤ bs ∧ w1.heap.size ≤ bg ∧ w1.heap.size ≤ g) := ⟨C2, B2, z1, z2, z3, z4⟩
  have hw2 : 2 ≤ w2.heap.size := Nat.le_trans hw1 B2.size
  clear C2 B2 z1 z2 z3 z4
  obtain ⟨W, hW⟩ : ∃ W, 1 + pickK x 40 = W := ⟨_, rfl⟩
  obtain ⟨H, hH⟩ : ∃ H, 1 + pickK y 20 = H := ⟨_, rfl⟩
  have eW : (1 : Int) + pkI x 40 = (W : Int) := by rw [← hW]; unfold pkI; show (1 : Int) + ((pickK x 40 : Nat) : Int) = _; omega
  have eH : (1 : Int) + pkI y 20 = (H : Int) := by rw [← hH]; unfold pkI; show (1 : Int) + ((pickK y 20 : Nat) : Int) = _; omega
  rw [hW, hH] at H2
  have HWH : Hid (1 ≤ W ∧ W ≤ 40 ∧ 1 ≤ H ∧ H ≤ 20) := ⟨by omega, by omega, by omega, by omega⟩
  clear hW hH
  go_wp2_with fail
  go_at_call 16
  refine (kPkI x 40 _ (by decide) (by decide) HT.out.2.2.2.1).mono ?_
  rintro e w' ⟨rfl, hw'⟩
  replace hw' := hw'.symm
  subst hw'
  go_wp2_with fail
  go_at_call 16
  refine (kPkI y 20 _ (by decide) (by decide) HT.out.2.2.2.2).mono ?_
  rintro e w' ⟨rfl, hw'⟩
  replace hw' := hw'.symm
  subst hw'
  go_wp2_with fail
  go_at_call 15
  refine (kNew W H _ HWH.out.1 HWH.out.2.1 HWH.out.2.2.1 HWH.out.2.2.2 hw2).mono ?_
  rintro e w3 ⟨M, rfl, D3, B3, O3⟩
  have H3 : Hid (Ve w pc (M.t 0) 0 w3) := by
    obtain ⟨C2, B2, z1, z2, z3, z4⟩ := H2.out
    have s1 := HB1.out.size
    have s2 := B2.size
    have s3 := B3.size
    obtain ⟨tq, Pq, _⟩ := C2.pr
    have l0 := C2.lt
    have l1 := Pq.lt
    have l2 := Pq.gr.lt
    have l3 := Pq.gr.glt
    refine ⟨[rootW W H], 0, newR W H, by omega, by omega, ok_root W H, root_flok HWH.out.1 HWH.out.2.1 HWH.out.2.2.1 HWH.out.2.2.2, ⟨⟨M, _, _, bs, bg, g, Nc, rfl, D3, new_tie W H, C2.below B3, fun i hi hq => ?_, fun i hi => ?_, by omega, by omega⟩, (HB1.out.trans (B2.mono s1)).trans (B3.mono (by omega)), HT.out.1, by omega⟩⟩
    · have := O3 i hi
      rcases hq with e | e | e | e <;> omega
    · have := O3 i hi
      omega
  obtain ⟨da, hda⟩ : ∃ da, M.t 0 = da := ⟨_, rfl⟩
  rw [hda] at H3
  rw [hda]
  clear D3 B3 O3 H2 hda eW eH lx ly
  go_wp2_with fail
  go_loopw [13] (fun vi wr => ∃ k : Nat, vi = .int .i64 k ∧ k ≤ 200 ∧ k ≤ sn + 1 ∧ Ve w pc da k wr) (fun vi _ => 200 - (intOf vi).toNat)
  case atStart => exact ⟨0, rfl, Nat.zero_le _, Nat.zero_le _, H3.out⟩
  case round =>
    obtain ⟨k, rfl, hk, hkn, hu⟩ := hrel
    have HU : Hid (Ve w pc da k wr) := hu
    clear hu H3
    by_cases hc : k ≤ sn ∧ k < 200
    · have hc1 : (k : Int) ≤ (sn : Int) := by omega
      have hc2 : (k : Int) < 200 := by omega
      have Hc : Hid (k ≤ sn ∧ k < 200) := hc
      obtain ⟨L, last, s, l0, lk, ok, f, v2⟩ := HU.out.ex
      by_cases hks : k < sn
      · have hks1 : (k : Int) < (sn : Int) := by omega
        obtain ⟨ho, sb, so, rfl, hsb, hcell⟩ := HT.out.2.1 k hks
        obtain ⟨o, hod⟩ : ∃ o, cs.getD k noAc = o := ⟨_, rfl⟩
        rw [hod] at ho hcell
        obtain ⟨L', last', c, ax⟩ := act_ex ok l0 (by omega) o ho
        have HX : Hid (Ax o L last L' last' c ∧ V2 w pc da 0 L last s s wr ∧ DOk L last ∧ FlOk L s ∧ 0 ≤ last ∧ last ≤ k) := ⟨ax, v2, ok, f, l0, lk⟩
        have hcw : ∀ j, j < 13 → wr.cell? ⟨sb, so + k * 13 + j, none⟩ = o.arr[j]? := fun j hj => (v2.bel.cells hsb _).trans (hcell j hj)
        have k0 : wr.cell? ⟨sb, so + k * 13, none⟩ = some (.int .i64 o.kd) := (hcw 0 (by omega)).trans rfl
        have k1 : wr.cell? ⟨sb, so + k * 13 + 1, none⟩ = some (.int .i64 o.a) := (hcw 1 (by omega)).trans rfl
        have k2 : wr.cell? ⟨sb, so + k * 13 + 2, none⟩ = some (.int .i64 o.b) := (hcw 2 (by omega)).trans rfl
        have k3 : wr.cell? ⟨sb, so + k * 13 + 3, none⟩ = some (.int .i64 o.c) := (hcw 3 (by omega)).trans rfl
        have k4 : wr.cell? ⟨sb, so + k * 13 + 4, none⟩ = some (.int .i64 o.d) := (hcw 4 (by omega)).trans rfl
        have k5 : wr.cell? ⟨sb, so + k * 13 + 5, none⟩ = some (.int .i64 o.e) := (hcw 5 (by omega)).trans rfl
        have k6 : wr.cell? ⟨sb, so + k * 13 + 6, none⟩ = some (.string o.s) := (hcw 6 (by omega)).trans rfl
        have k7 : wr.cell? ⟨sb, so + k * 13 + 7, none⟩ = some (.int .i64 o.p.f) := (hcw 7 (by omega)).trans rfl
        have k8 : wr.cell? ⟨sb, so + k * 13 + 8, none⟩ = some (.int .i64 o.p.b) := (hcw 8 (by omega)).trans rfl
        have k9 : wr.cell? ⟨sb, so + k * 13 + 9, none⟩ = some (.bool o.p.bo) := (hcw 9 (by omega)).trans rfl
        have k10 : wr.cell? ⟨sb, so + k * 13 + 10, none⟩ = some (.bool o.p.un) := (hcw 10 (by omega)).trans rfl
        have k11 : wr.cell? ⟨sb, so + k * 13 + 11, none⟩ = some (.bool o.p.re) := (hcw 11 (by omega)).trans rfl
        have k12 : wr.cell? ⟨sb, so + k * 13 + 12, none⟩ = some (.bool o.wb) := (hcw 12 (by omega)).trans rfl
        clear ho hsb hcell hod l0 lk ok f v2 ax hcw hc hk hkn HU hks
        go_wp2_with fail
        go_at_call 17
        refine (HX.out.2.1.desk (a := fun p => #[.pointer p, o.agg]) (fun M N t tie D _ => (HX.out.1.x wr M N s t HX.out.2.2.2.1.fl.ok D).mono (fun e w' p => ⟨t, tie, p⟩))).mono ?_
        rintro e w5 ⟨rfl, v5, _⟩
        have HC : Hid (V2 w pc da 0 L' last' s s w5 ∧ DOk L' last' ∧ FlOk L' s ∧ 0 ≤ last' ∧ last' ≤ ((k + 1 : Nat) : Int)) := by
          obtain ⟨q1, q2, q3, q4, q5, q6⟩ := HX.out
          have := q1.le
          exact ⟨v5, q1.ok, ⟨q4.fl, q1.pens q4.pens, q1.fit _ _ q4.fit⟩, by omega, by omega⟩
        clear k0 k1 k2 k3 k4 k5 k6 k7 k8 k9 k10 k11 k12 v5 HX
        by_cases hl : k < ln
        · have hl' : (k : Int) < (ln : Int) := by omega
          obtain ⟨hr, lb, lo, rfl, hlb, hlc⟩ := HT.out.2.2.1 k hl
          obtain ⟨v, hv⟩ : ∃ v, ls.getD k 0 = v := ⟨_, rfl⟩
          rw [hv] at hr hlc
          have kl : w5.cell? ⟨lb, lo + k, none⟩ = some (.int .i64 v) := (HC.out.1.bel.cells hlb _).trans hlc
          have Hr : Hid (Rng v) := hr
          clear hv hlc hlb hl
          by_cases hm : v.tmod 3 = 0
          · by_cases hm7 : v.tmod 7 = 0
            · obtain ⟨p1, p2⟩ := tdiv_rng (k := 3) (by omega) hr
              obtain ⟨p3, p4⟩ := tdiv_rng (k := 5) (by omega) hr
              have lx := pkI_in (v.tdiv 3) (n := 40) (by decide)
              have ly := pkI_in (v.tdiv 5) (n := 20) (by decide)
              obtain ⟨V, hV⟩ := Int.eq_ofNat_of_zero_le (show 0 ≤ 1 + pkI (v.tdiv 3) 40 by omega)
              obtain ⟨G, hG⟩ := Int.eq_ofNat_of_zero_le (show 0 ≤ 1 + pkI (v.tdiv 5) 20 by omega)
              have eV : (1 : Int) + pkI (v.tdiv 3) 40 = (V : Int) := hV
              have eG : (1 : Int) + pkI (v.tdiv 5) 20 = (G : Int) := hG
              have HVG : Hid (1 ≤ V ∧ V ≤ 40 ∧ 1 ≤ G ∧ G ≤ 20) := ⟨by omega, by omega, by omega, by omega⟩
              obtain ⟨L2, Tx2⟩ := txResizeYes HC.out.2.1 V G (sizeB_iff.2 (by have := HVG.out; omega))
              have HTx : Hid (Tx 18 (fun q => #[.pointer q, .int .i64 V, .int .i64 G]) L' last' L2 last' (.int .i64 0) 0 (fun s => resizeR s V G)) := Tx2
              have Hp : Hid (Rng (v.tdiv 3) ∧ Rng (v.tdiv 5)) := ⟨⟨p1, p2⟩, ⟨p3, p4⟩⟩
              clear hV hG Tx2 hr
              go_wp2_with fail
              go_at_call 16
              refine (kPkI (v.tdiv 3) 40 _ (by decide) (by decide) Hp.out.1).mono ?_
              rintro e w' ⟨rfl, hw'⟩
              replace hw' := hw'.symm
              subst hw'
              go_wp2_with fail
              go_at_call 16
              refine (kPkI (v.tdiv 5) 20 _ (by decide) (by decide) Hp.out.2).mono ?_
              rintro e w' ⟨rfl, hw'⟩
              replace hw' := hw'.symm
              subst hw'
              go_wp2_with fail
              go_at_call 18
              refine (HC.out.1.desk (a := fun p => #[.pointer p, .int .i64 V, .int .i64 G]) (s' := resizeR s V G) (fun M N t tie D _ => (HTx.out.x w5 M N s t HC.out.2.2.1.fl.ok D).mono (fun e w' p => ⟨t, tie, p⟩))).mono ?_
              rintro e w6 ⟨rfl, v6, _⟩
              have H6 : Hid (V2 w pc da 0 L2 last' (resizeR s V G) s w6) := v6
              clear v6 kl
              go_wp2_with fail
              go_at_call 19
              refine (H6.out.scr (a := fun p => #[.pointer p, .int .i64 V, .int .i64 G]) (fun bs bg g Nc C _ => cResizeYes pc bs bg g Nc s V G w6 C HVG.out.1 HVG.out.2.1 HVG.out.2.2.1 HVG.out.2.2.2)).mono ?_
              rintro e w7 ⟨rfl, v7⟩
              have HC2 : Hid (V2 w pc da 0 L2 last' (resizeR s V G) (resizeR s V G) w7 ∧ DOk L2 last' ∧ FlOk L2 (resizeR s V G) ∧ 0 ≤ last' ∧ last' ≤ ((k + 1 : Nat) : Int)) := by
                obtain ⟨q1, q2, q3, q4, q5⟩ := HC.out
                exact ⟨v7, HTx.out.ok, ⟨HTx.out.fl _ q3.fl, HTx.out.pens q3.pens, HTx.out.fit s q3.fit⟩, q4, q5⟩
              clear v7 HC H6 eV eG lx ly p1 p2 p3 p4
              have HC := HC2
              clear HC2
              obtain ⟨s2, hs2⟩ : ∃ s2, resizeR s V G = s2 := ⟨_, rfl⟩
              rw [hs2] at HC
              obtain ⟨n2, hn2⟩ : ∃ n2, last' = n2 := ⟨_, rfl⟩
              rw [hn2] at HC
              clear hs2 hn2 HTx
              go_wp2_with fail
              obtain ⟨rk, K, T⟩ := HC.out.2.1.tree
              obtain ⟨r, tl, eL, r0, _, _⟩ := T.head
              have hrL : r ∈ L2 := by rw [eL]; exact List.mem_cons_self
              obtain ⟨P, hP⟩ : ∃ P : Nat → Nat → Cel, (fun x y : Nat => picP L2 K r x y) = P := ⟨_, rfl⟩
              obtain ⟨b, hb⟩ : ∃ b, bytesL s2 P = b := ⟨_, rfl⟩
              obtain ⟨kn, hkn⟩ : ∃ kn, cntB (shB s2 P) (s2.H * s2.W) = kn := ⟨_, rfl⟩
              have HT2 : Hid (Tree L2 rk K ∧ r ∈ L2 ∧ r.n = 0 ∧ (fun x y : Nat => picP L2 K r x y) = P ∧ bytesL s2 P = b ∧ cntB (shB s2 P) (s2.H * s2.W) = kn ∧ r.W = s2.W ∧ r.H = s2.H) := ⟨T, hrL, r0, hP, hb, hkn, HC.out.2.2.1.fit r hrL r0⟩
              have HF : Hid (Flushed L2 s2 P b kn) := by
                obtain ⟨M, N, t, _, _, _, _, _, D, _⟩ := HC.out.1.ex
                exact flushed HC.out.2.2.1 T D hrL r0 P hP b hb kn hkn
              clear T eL r0 hrL hP hb hkn
              go_at_call 20
              refine (HC.out.1.shows HT2.out.1 HC.out.2.1 HT2.out.2.1 HT2.out.2.2.1 HT2.out.2.2.2.2.2.2.1 HT2.out.2.2.2.2.2.2.2 P HT2.out.2.2.2.1).mono ?_
              rw [HT2.out.2.2.2.2.2.1]
              rintro e x1 ⟨rfl, v1, _⟩
              have H1 : Hid (V2 w pc da 0 L2 n2 s2 s2 x1) := v1
              clear v1
              go_wp2_with fail
              go_at_call 21
              refine (H1.out.flush HT2.out.1 HC.out.2.1 HC.out.2.2.1 HT2.out.2.1 HT2.out.2.2.1 b (by rw [HT2.out.2.2.2.1]; exact HT2.out.2.2.2.2.1)).mono ?_
              rintro e x2 ⟨rfl, v2, _⟩
              have H2 : Hid (V2 w pc da 0 L2 n2 (feedR s2 b) s2 x2) := v2
              clear v2
              go_wp2_with fail
              go_at_call 22
              refine (H2.out.feed b (by have h1 := HF.out.few; have h2 := HF.out.kn8; omega)).mono ?_
              rintro e x3 ⟨rfl, v3⟩
              have H3 : Hid (V2 w pc da 0 L2 n2 (feedR s2 b) (feedR s2 b) x3) := v3
              clear v3
              obtain ⟨s3, hs3⟩ : ∃ s3, feedR s2 b = s3 := ⟨_, rfl⟩
              have Hs3 : Hid (feedR s2 b = s3) := hs3
              rw [hs3] at H3
              clear hs3
              go_wp2_with fail
              go_at_call 23
              refine H3.out.state.mono ?_
              rintro e x4 ⟨rfl, v4⟩
              have hg : groundB s3 = true := by rw [← Hs3.out]; exact HF.out.ground
              have ht : s3.top = 0 := by rw [← Hs3.out]; exact HF.out.top
              have hbo : s3.bot = (s3.H : Int) - 1 := by rw [← Hs3.out]; exact HF.out.bot
              rw [hg, ht, hbo]
              have H4 : Hid (V2 w pc da 0 L2 n2 s3 s3 x4) := v4
              have hs20 : s3.H ≤ 20 := by rw [← Hs3.out]; exact HF.out.flok.fl.ok.h2
              clear v4 hg ht hbo
              go_upto_region 23 with fail
              have hQ : ∃ x5 B, x4.alloc (.cells #[.int .i64 s3.W, .int .i64 s3.H, .int .i64 s3.x, .int .i64 s3.y, .bool s3.pend, .int .i64 s3.pen.f, .int .i64 s3.pen.b, .bool s3.pen.bo, .bool s3.pen.un, .bool s3.pen.re, .int .i64 0, .int .i64 ((s3.H : Int) - 1), .bool true] 59) = x5 ∧ x4.heap.size = B ∧ V2 w pc da B L2 n2 s3 s3 x5 ∧ x5.heap[B]? = some (.cells #[.int .i64 s3.W, .int .i64 s3.H, .int .i64 s3.x, .int .i64 s3.y, .bool s3.pend, .int .i64 s3.pen.f, .int .i64 s3.pen.b, .bool s3.pen.bo, .bool s3.pen.un, .bool s3.pen.re, .int .i64 0, .int .i64 ((s3.H : Int) - 1), .bool true] 59) := ⟨_, _, rfl, rfl, H4.out.rebase ((Below.refl _ _).alloc (Nat.le_refl _) _) (by simp), heap_new _ _⟩
              obtain ⟨x5, B, hx5, hB, v5, bB⟩ := hQ
              rw [hx5]
              try rw [hB]
              have H5 : Hid (V2 w pc da B L2 n2 s3 s3 x5 ∧ x5.heap[B]? = some (.cells #[.int .i64 s3.W, .int .i64 s3.H, .int .i64 s3.x, .int .i64 s3.y, .bool s3.pend, .int .i64 s3.pen.f, .int .i64 s3.pen.b, .bool s3.pen.bo, .bool s3.pen.un, .bool s3.pen.re, .int .i64 0, .int .i64 ((s3.H : Int) - 1), .bool true] 59)) := ⟨v5, bB⟩
              clear hx5 hB v5 bB
              have HF3 : Hid (FlOk L2 s3 ∧ cntB (shB s3 P) (s3.H * s3.W) = 0 ∧ bytesL s3 P = []) := by
                have q := HF.out
                rw [← Hs3.out]
                exact ⟨q.flok, q.left, q.again⟩
              go_wp2_with fail
              go_at_call 20
              refine (H5.out.1.shows HT2.out.1 HC.out.2.1 HT2.out.2.1 HT2.out.2.2.1 (HF3.out.1.fit r HT2.out.2.1 HT2.out.2.2.1).1 (HF3.out.1.fit r HT2.out.2.1 HT2.out.2.2.1).2 P HT2.out.2.2.2.1).mono ?_
              rw [HF3.out.2.1]
              rintro e x6 ⟨rfl, v6, b6⟩
              have H6 : Hid (V2 w pc da B L2 n2 s3 s3 x6 ∧ x6.heap[B]? = some (.cells #[.int .i64 s3.W, .int .i64 s3.H, .int .i64 s3.x, .int .i64 s3.y, .bool s3.pend, .int .i64 s3.pen.f, .int .i64 s3.pen.b, .bool s3.pen.bo, .bool s3.pen.un, .bool s3.pen.re, .int .i64 0, .int .i64 ((s3.H : Int) - 1), .bool true] 59)) := ⟨v6, b6.trans H5.out.2⟩
              clear v6 b6
              go_wp2_with fail
              go_at_call 21
              refine (H6.out.1.flush HT2.out.1 HC.out.2.1 HF3.out.1 HT2.out.2.1 HT2.out.2.2.1 [] (by rw [HT2.out.2.2.2.1]; exact HF3.out.2.2)).mono ?_
              rintro e x7 ⟨rfl, v7, b7⟩
              have bB : x7.heap[B]? = some (.cells #[.int .i64 s3.W, .int .i64 s3.H, .int .i64 s3.x, .int .i64 s3.y, .bool s3.pend, .int .i64 s3.pen.f, .int .i64 s3.pen.b, .bool s3.pen.bo, .bool s3.pen.un, .bool s3.pen.re, .int .i64 0, .int .i64 ((s3.H : Int) - 1), .bool true] 59) := b7.trans H6.out.2
              have g1 : x7.cell? ⟨B, 1, none⟩ = some (.int .i64 s3.H) := cell_of_block bB 1
              have g10 : x7.cell? ⟨B, 10, none⟩ = some (.int .i64 0) := cell_of_block bB 10
              have g11 : x7.cell? ⟨B, 11, none⟩ = some (.int .i64 ((s3.H : Int) - 1)) := cell_of_block bB 11
              have g12 : x7.cell? ⟨B, 12, none⟩ = some (.bool true) := cell_of_block bB 12
              have HN : Hid (Ve w pc da (k + 1) x7) := ⟨L2, n2, s3, HC.out.2.2.2.1, HC.out.2.2.2.2, HC.out.2.1, HF3.out.1, v7.zero⟩
              have hfew : (b.length : Int) ≤ 64 * (kn : Int) + 16 := by have := HF.out.few; omega
              have hkn8 : (kn : Int) ≤ 800 := by have := HF.out.kn8; omega
              have hbl : (b.length : Int) ≤ 100000 := by omega
              have ebl : ((({ data := b.toArray } : ByteArray).size : Nat) : Int) = (b.length : Int) := rfl
              have hs21 : (s3.H : Int) ≤ 20 := by omega
              clear v7 b7 bB hs20
              by_cases hk0 : kn = 0
              · have hb0 := HF.out.none hk0
                subst hb0
                subst hk0
                clear hfew hkn8 hbl
                go_wp2_with fail
                go_roundw
                case rel => exact ⟨k + 1, by go_num, by have := Hc.out; omega, by have := Hc.out; omega, HN.out⟩
                case measure => simp [intOf]; have := Hc.out; omega
              · have hk1 : ¬ ((kn : Int) = 0) := by omega
                have hk2 : ((kn : Int) == 0) = false := by simpa using hk1
                have hgt : ¬ (64 * (kn : Int) + 16 < (b.length : Int)) := by omega
                clear hk0
                go_wp2_with fail
                go_roundw
                case rel => exact ⟨k + 1, by go_num, by have := Hc.out; omega, by have := Hc.out; omega, HN.out⟩
                case measure => simp [intOf]; have := Hc.out; omega
            · have hm7' : (v.tmod 7 == 0) = false := by simpa using hm7
              obtain ⟨L2, hL2⟩ : ∃ L2, L' = L2 := ⟨_, rfl⟩
              obtain ⟨s2, hs2⟩ : ∃ s2, s = s2 := ⟨_, rfl⟩
              obtain ⟨n2, hn2⟩ : ∃ n2, last' = n2 := ⟨_, rfl⟩
              rw [hL2, hs2, hn2] at HC
              clear hL2 hs2 hn2 hr
              go_wp2_with fail
              clear kl
              obtain ⟨rk, K, T⟩ := HC.out.2.1.tree
              obtain ⟨r, tl, eL, r0, _, _⟩ := T.head
              have hrL : r ∈ L2 := by rw [eL]; exact List.mem_cons_self
              obtain ⟨P, hP⟩ : ∃ P : Nat → Nat → Cel, (fun x y : Nat => picP L2 K r x y) = P := ⟨_, rfl⟩
              obtain ⟨b, hb⟩ : ∃ b, bytesL s2 P = b := ⟨_, rfl⟩
              obtain ⟨kn, hkn⟩ : ∃ kn, cntB (shB s2 P) (s2.H * s2.W) = kn := ⟨_, rfl⟩
              have HT2 : Hid (Tree L2 rk K ∧ r ∈ L2 ∧ r.n = 0 ∧ (fun x y : Nat => picP L2 K r x y) = P ∧ bytesL s2 P = b ∧ cntB (shB s2 P) (s2.H * s2.W) = kn ∧ r.W = s2.W ∧ r.H = s2.H) := ⟨T, hrL, r0, hP, hb, hkn, HC.out.2.2.1.fit r hrL r0⟩
              have HF : Hid (Flushed L2 s2 P b kn) := by
                obtain ⟨M, N, t, _, _, _, _, _, D, _⟩ := HC.out.1.ex
                exact flushed HC.out.2.2.1 T D hrL r0 P hP b hb kn hkn
              clear T eL r0 hrL hP hb hkn
              go_at_call 20
              refine (HC.out.1.shows HT2.out.1 HC.out.2.1 HT2.out.2.1 HT2.out.2.2.1 HT2.out.2.2.2.2.2.2.1 HT2.out.2.2.2.2.2.2.2 P HT2.out.2.2.2.1).mono ?_
              rw [HT2.out.2.2.2.2.2.1]
              rintro e x1 ⟨rfl, v1, _⟩
              have H1 : Hid (V2 w pc da 0 L2 n2 s2 s2 x1) := v1
              clear v1
              go_wp2_with fail
              go_at_call 21
              refine (H1.out.flush HT2.out.1 HC.out.2.1 HC.out.2.2.1 HT2.out.2.1 HT2.out.2.2.1 b (by rw [HT2.out.2.2.2.1]; exact HT2.out.2.2.2.2.1)).mono ?_
              rintro e x2 ⟨rfl, v2, _⟩
              have H2 : Hid (V2 w pc da 0 L2 n2 (feedR s2 b) s2 x2) := v2
              clear v2
              go_wp2_with fail
              go_at_call 22
              refine (H2.out.feed b (by have h1 := HF.out.few; have h2 := HF.out.kn8; omega)).mono ?_
              rintro e x3 ⟨rfl, v3⟩
              have H3 : Hid (V2 w pc da 0 L2 n2 (feedR s2 b) (feedR s2 b) x3) := v3
              clear v3
              obtain ⟨s3, hs3⟩ : ∃ s3, feedR s2 b = s3 := ⟨_, rfl⟩
              have Hs3 : Hid (feedR s2 b = s3) := hs3
              rw [hs3] at H3
              clear hs3
              go_wp2_with fail
              go_at_call 23
              refine H3.out.state.mono ?_
              rintro e x4 ⟨rfl, v4⟩
              have hg : groundB s3 = true := by rw [← Hs3.out]; exact HF.out.ground
              have ht : s3.top = 0 := by rw [← Hs3.out]; exact HF.out.top
              have hbo : s3.bot = (s3.H : Int) - 1 := by rw [← Hs3.out]; exact HF.out.bot
              rw [hg, ht, hbo]
              have H4 : Hid (V2 w pc da 0 L2 n2 s3 s3 x4) := v4
              have hs20 : s3.H ≤ 20 := by rw [← Hs3.out]; exact HF.out.flok.fl.ok.h2
              clear v4 hg ht hbo
              go_upto_region 23 with fail
              have hQ : ∃ x5 B, x4.alloc (.cells #[.int .i64 s3.W, .int .i64 s3.H, .int .i64 s3.x, .int .i64 s3.y, .bool s3.pend, .int .i64 s3.pen.f, .int .i64 s3.pen.b, .bool s3.pen.bo, .bool s3.pen.un, .bool s3.pen.re, .int .i64 0, .int .i64 ((s3.H : Int) - 1), .bool true] 59) = x5 ∧ x4.heap.size = B ∧ V2 w pc da B L2 n2 s3 s3 x5 ∧ x5.heap[B]? = some (.cells #[.int .i64 s3.W, .int .i64 s3.H, .int .i64 s3.x, .int .i64 s3.y, .bool s3.pend, .int .i64 s3.pen.f, .int .i64 s3.pen.b, .bool s3.pen.bo, .bool s3.pen.un, .bool s3.pen.re, .int .i64 0, .int .i64 ((s3.H : Int) - 1), .bool true] 59) := ⟨_, _, rfl, rfl, H4.out.rebase ((Below.refl _ _).alloc (Nat.le_refl _) _) (by simp), heap_new _ _⟩
              obtain ⟨x5, B, hx5, hB, v5, bB⟩ := hQ
              rw [hx5]
              try rw [hB]
              have H5 : Hid (V2 w pc da B L2 n2 s3 s3 x5 ∧ x5.heap[B]? = some (.cells #[.int .i64 s3.W, .int .i64 s3.H, .int .i64 s3.x, .int .i64 s3.y, .bool s3.pend, .int .i64 s3.pen.f, .int .i64 s3.pen.b, .bool s3.pen.bo, .bool s3.pen.un, .bool s3.pen.re, .int .i64 0, .int .i64 ((s3.H : Int) - 1), .bool true] 59)) := ⟨v5, bB⟩
              clear hx5 hB v5 bB
              have HF3 : Hid (FlOk L2 s3 ∧ cntB (shB s3 P) (s3.H * s3.W) = 0 ∧ bytesL s3 P = []) := by
                have q := HF.out
                rw [← Hs3.out]
                exact ⟨q.flok, q.left, q.again⟩
              go_wp2_with fail
              go_at_call 20
              refine (H5.out.1.shows HT2.out.1 HC.out.2.1 HT2.out.2.1 HT2.out.2.2.1 (HF3.out.1.fit r HT2.out.2.1 HT2.out.2.2.1).1 (HF3.out.1.fit r HT2.out.2.1 HT2.out.2.2.1).2 P HT2.out.2.2.2.1).mono ?_
              rw [HF3.out.2.1]
              rintro e x6 ⟨rfl, v6, b6⟩
              have H6 : Hid (V2 w pc da B L2 n2 s3 s3 x6 ∧ x6.heap[B]? = some (.cells #[.int .i64 s3.W, .int .i64 s3.H, .int .i64 s3.x, .int .i64 s3.y, .bool s3.pend, .int .i64 s3.pen.f, .int .i64 s3.pen.b, .bool s3.pen.bo, .bool s3.pen.un, .bool s3.pen.re, .int .i64 0, .int .i64 ((s3.H : Int) - 1), .bool true] 59)) := ⟨v6, b6.trans H5.out.2⟩
              clear v6 b6
              go_wp2_with fail
              go_at_call 21
              refine (H6.out.1.flush HT2.out.1 HC.out.2.1 HF3.out.1 HT2.out.2.1 HT2.out.2.2.1 [] (by rw [HT2.out.2.2.2.1]; exact HF3.out.2.2)).mono ?_
              rintro e x7 ⟨rfl, v7, b7⟩
              have bB : x7.heap[B]? = some (.cells #[.int .i64 s3.W, .int .i64 s3.H, .int .i64 s3.x, .int .i64 s3.y, .bool s3.pend, .int .i64 s3.pen.f, .int .i64 s3.pen.b, .bool s3.pen.bo, .bool s3.pen.un, .bool s3.pen.re, .int .i64 0, .int .i64 ((s3.H : Int) - 1), .bool true] 59) := b7.trans H6.out.2
              have g1 : x7.cell? ⟨B, 1, none⟩ = some (.int .i64 s3.H) := cell_of_block bB 1
              have g10 : x7.cell? ⟨B, 10, none⟩ = some (.int .i64 0) := cell_of_block bB 10
              have g11 : x7.cell? ⟨B, 11, none⟩ = some (.int .i64 ((s3.H : Int) - 1)) := cell_of_block bB 11
              have g12 : x7.cell? ⟨B, 12, none⟩ = some (.bool true) := cell_of_block bB 12
              have HN : Hid (Ve w pc da (k + 1) x7) := ⟨L2, n2, s3, HC.out.2.2.2.1, HC.out.2.2.2.2, HC.out.2.1, HF3.out.1, v7.zero⟩
              have hfew : (b.length : Int) ≤ 64 * (kn : Int) + 16 := by have := HF.out.few; omega
              have hkn8 : (kn : Int) ≤ 800 := by have := HF.out.kn8; omega
              have hbl : (b.length : Int) ≤ 100000 := by omega
              have ebl : ((({ data := b.toArray } : ByteArray).size : Nat) : Int) = (b.length : Int) := rfl
              have hs21 : (s3.H : Int) ≤ 20 := by omega
              clear v7 b7 bB hs20
              by_cases hk0 : kn = 0
              · have hb0 := HF.out.none hk0
                subst hb0
                subst hk0
                clear hfew hkn8 hbl
                go_wp2_with fail
                go_roundw
                case rel => exact ⟨k + 1, by go_num, by have := Hc.out; omega, by have := Hc.out; omega, HN.out⟩
                case measure => simp [intOf]; have := Hc.out; omega
              · have hk1 : ¬ ((kn : Int) = 0) := by omega
                have hk2 : ((kn : Int) == 0) = false := by simpa using hk1
                have hgt : ¬ (64 * (kn : Int) + 16 < (b.length : Int)) := by omega
                clear hk0
                go_wp2_with fail
                go_roundw
                case rel => exact ⟨k + 1, by go_num, by have := Hc.out; omega, by have := Hc.out; omega, HN.out⟩
                case measure => simp [intOf]; have := Hc.out; omega
          · have hm' : (v.tmod 3 == 0) = false := by simpa using hm
            have hm2 : (v.tmod 3 != 0) = true := by simpa using hm
            have HN : Hid (Ve w pc da (k + 1) w5) := ⟨L', last', s, HC.out.2.2.2.1, HC.out.2.2.2.2, HC.out.2.1, HC.out.2.2.1, HC.out.1⟩
            clear hr
            go_wp2_with fail
            go_roundw
            case rel => exact ⟨k + 1, by go_num, by have := Hc.out; omega, by have := Hc.out; omega, HN.out⟩
            case measure => simp [intOf]; have := Hc.out; omega
        · have hl' : ¬ ((k : Int) < (ln : Int)) := by omega
          obtain ⟨L2, hL2⟩ : ∃ L2, L' = L2 := ⟨_, rfl⟩
          obtain ⟨s2, hs2⟩ : ∃ s2, s = s2 := ⟨_, rfl⟩
          obtain ⟨n2, hn2⟩ : ∃ n2, last' = n2 := ⟨_, rfl⟩
          rw [hL2, hs2, hn2] at HC
          clear hL2 hs2 hn2 hl
          go_wp2_with fail
          obtain ⟨rk, K, T⟩ := HC.out.2.1.tree
          obtain ⟨r, tl, eL, r0, _, _⟩ := T.head
          have hrL : r ∈ L2 := by rw [eL]; exact List.mem_cons_self
          obtain ⟨P, hP⟩ : ∃ P : Nat → Nat → Cel, (fun x y : Nat => picP L2 K r x y) = P := ⟨_, rfl⟩
          obtain ⟨b, hb⟩ : ∃ b, bytesL s2 P = b := ⟨_, rfl⟩
          obtain ⟨kn, hkn⟩ : ∃ kn, cntB (shB s2 P) (s2.H * s2.W) = kn := ⟨_, rfl⟩
          have HT2 : Hid (Tree L2 rk K ∧ r ∈ L2 ∧ r.n = 0 ∧ (fun x y : Nat => picP L2 K r x y) = P ∧ bytesL s2 P = b ∧ cntB (shB s2 P) (s2.H * s2.W) = kn ∧ r.W = s2.W ∧ r.H = s2.H) := ⟨T, hrL, r0, hP, hb, hkn, HC.out.2.2.1.fit r hrL r0⟩
          have HF : Hid (Flushed L2 s2 P b kn) := by
            obtain ⟨M, N, t, _, _, _, _, _, D, _⟩ := HC.out.1.ex
            exact flushed HC.out.2.2.1 T D hrL r0 P hP b hb kn hkn
          clear T eL r0 hrL hP hb hkn
          go_at_call 20
          refine (HC.out.1.shows HT2.out.1 HC.out.2.1 HT2.out.2.1 HT2.out.2.2.1 HT2.out.2.2.2.2.2.2.1 HT2.out.2.2.2.2.2.2.2 P HT2.out.2.2.2.1).mono ?_
          rw [HT2.out.2.2.2.2.2.1]
          rintro e x1 ⟨rfl, v1, _⟩
          have H1 : Hid (V2 w pc da 0 L2 n2 s2 s2 x1) := v1
          clear v1
          go_wp2_with fail
          go_at_call 21
          refine (H1.out.flush HT2.out.1 HC.out.2.1 HC.out.2.2.1 HT2.out.2.1 HT2.out.2.2.1 b (by rw [HT2.out.2.2.2.1]; exact HT2.out.2.2.2.2.1)).mono ?_
          rintro e x2 ⟨rfl, v2, _⟩
          have H2 : Hid (V2 w pc da 0 L2 n2 (feedR s2 b) s2 x2) := v2
          clear v2
          go_wp2_with fail
          go_at_call 22
          refine (H2.out.feed b (by have h1 := HF.out.few; have h2 := HF.out.kn8; omega)).mono ?_
          rintro e x3 ⟨rfl, v3⟩
          have H3 : Hid (V2 w pc da 0 L2 n2 (feedR s2 b) (feedR s2 b) x3) := v3
          clear v3
          obtain ⟨s3, hs3⟩ : ∃ s3, feedR s2 b = s3 := ⟨_, rfl⟩
          have Hs3 : Hid (feedR s2 b = s3) := hs3
          rw [hs3] at H3
          clear hs3
          go_wp2_with fail
          go_at_call 23
          refine H3.out.state.mono ?_
          rintro e x4 ⟨rfl, v4⟩
          have hg : groundB s3 = true := by rw [← Hs3.out]; exact HF.out.ground
          have ht : s3.top = 0 := by rw [← Hs3.out]; exact HF.out.top
          have hbo : s3.bot = (s3.H : Int) - 1 := by rw [← Hs3.out]; exact HF.out.bot
          rw [hg, ht, hbo]
          have H4 : Hid (V2 w pc da 0 L2 n2 s3 s3 x4) := v4
          have hs20 : s3.H ≤ 20 := by rw [← Hs3.out]; exact HF.out.flok.fl.ok.h2
          clear v4 hg ht hbo
          go_upto_region 23 with fail
          have hQ : ∃ x5 B, x4.alloc (.cells #[.int .i64 s3.W, .int .i64 s3.H, .int .i64 s3.x, .int .i64 s3.y, .bool s3.pend, .int .i64 s3.pen.f, .int .i64 s3.pen.b, .bool s3.pen.bo, .bool s3.pen.un, .bool s3.pen.re, .int .i64 0, .int .i64 ((s3.H : Int) - 1), .bool true] 59) = x5 ∧ x4.heap.size = B ∧ V2 w pc da B L2 n2 s3 s3 x5 ∧ x5.heap[B]? = some (.cells #[.int .i64 s3.W, .int .i64 s3.H, .int .i64 s3.x, .int .i64 s3.y, .bool s3.pend, .int .i64 s3.pen.f, .int .i64 s3.pen.b, .bool s3.pen.bo, .bool s3.pen.un, .bool s3.pen.re, .int .i64 0, .int .i64 ((s3.H : Int) - 1), .bool true] 59) := ⟨_, _, rfl, rfl, H4.out.rebase ((Below.refl _ _).alloc (Nat.le_refl _) _) (by simp), heap_new _ _⟩
          obtain ⟨x5, B, hx5, hB, v5, bB⟩ := hQ
          rw [hx5]
          try rw [hB]
          have H5 : Hid (V2 w pc da B L2 n2 s3 s3 x5 ∧ x5.heap[B]? = some (.cells #[.int .i64 s3.W, .int .i64 s3.H, .int .i64 s3.x, .int .i64 s3.y, .bool s3.pend, .int .i64 s3.pen.f, .int .i64 s3.pen.b, .bool s3.pen.bo, .bool s3.pen.un, .bool s3.pen.re, .int .i64 0, .int .i64 ((s3.H : Int) - 1), .bool true] 59)) := ⟨v5, bB⟩
          clear hx5 hB v5 bB
          have HF3 : Hid (FlOk L2 s3 ∧ cntB (shB s3 P) (s3.H * s3.W) = 0 ∧ bytesL s3 P = []) := by
            have q := HF.out
            rw [← Hs3.out]
            exact ⟨q.flok, q.left, q.again⟩
          go_wp2_with fail
          go_at_call 20
          refine (H5.out.1.shows HT2.out.1 HC.out.2.1 HT2.out.2.1 HT2.out.2.2.1 (HF3.out.1.fit r HT2.out.2.1 HT2.out.2.2.1).1 (HF3.out.1.fit r HT2.out.2.1 HT2.out.2.2.1).2 P HT2.out.2.2.2.1).mono ?_
          rw [HF3.out.2.1]
          rintro e x6 ⟨rfl, v6, b6⟩
          have H6 : Hid (V2 w pc da B L2 n2 s3 s3 x6 ∧ x6.heap[B]? = some (.cells #[.int .i64 s3.W, .int .i64 s3.H, .int .i64 s3.x, .int .i64 s3.y, .bool s3.pend, .int .i64 s3.pen.f, .int .i64 s3.pen.b, .bool s3.pen.bo, .bool s3.pen.un, .bool s3.pen.re, .int .i64 0, .int .i64 ((s3.H : Int) - 1), .bool true] 59)) := ⟨v6, b6.trans H5.out.2⟩
          clear v6 b6
          go_wp2_with fail
          go_at_call 21
          refine (H6.out.1.flush HT2.out.1 HC.out.2.1 HF3.out.1 HT2.out.2.1 HT2.out.2.2.1 [] (by rw [HT2.out.2.2.2.1]; exact HF3.out.2.2)).mono ?_
          rintro e x7 ⟨rfl, v7, b7⟩
          have bB : x7.heap[B]? = some (.cells #[.int .i64 s3.W, .int .i64 s3.H, .int .i64 s3.x, .int .i64 s3.y, .bool s3.pend, .int .i64 s3.pen.f, .int .i64 s3.pen.b, .bool s3.pen.bo, .bool s3.pen.un, .bool s3.pen.re, .int .i64 0, .int .i64 ((s3.H : Int) - 1), .bool true] 59) := b7.trans H6.out.2
          have g1 : x7.cell? ⟨B, 1, none⟩ = some (.int .i64 s3.H) := cell_of_block bB 1
          have g10 : x7.cell? ⟨B, 10, none⟩ = some (.int .i64 0) := cell_of_block bB 10
          have g11 : x7.cell? ⟨B, 11, none⟩ = some (.int .i64 ((s3.H : Int) - 1)) := cell_of_block bB 11
          have g12 : x7.cell? ⟨B, 12, none⟩ = some (.bool true) := cell_of_block bB 12
          have HN : Hid (Ve w pc da (k + 1) x7) := ⟨L2, n2, s3, HC.out.2.2.2.1, HC.out.2.2.2.2, HC.out.2.1, HF3.out.1, v7.zero⟩
          have hfew : (b.length : Int) ≤ 64 * (kn : Int) + 16 := by have := HF.out.few; omega
          have hkn8 : (kn : Int) ≤ 800 := by have := HF.out.kn8; omega
          have hbl : (b.length : Int) ≤ 100000 := by omega
          have ebl : ((({ data := b.toArray } : ByteArray).size : Nat) : Int) = (b.length : Int) := rfl
          have hs21 : (s3.H : Int) ≤ 20 := by omega
          clear v7 b7 bB hs20
          by_cases hk0 : kn = 0
          · have hb0 := HF.out.none hk0
            subst hb0
            subst hk0
            clear hfew hkn8 hbl
            go_wp2_with fail
            go_roundw
            case rel => exact ⟨k + 1, by go_num, by have := Hc.out; omega, by have := Hc.out; omega, HN.out⟩
            case measure => simp [intOf]; have := Hc.out; omega
          · have hk1 : ¬ ((kn : Int) = 0) := by omega
            have hk2 : ((kn : Int) == 0) = false := by simpa using hk1
            have hgt : ¬ (64 * (kn : Int) + 16 < (b.length : Int)) := by omega
            clear hk0
            go_wp2_with fail
            go_roundw
            case rel => exact ⟨k + 1, by go_num, by have := Hc.out; omega, by have := Hc.out; omega, HN.out⟩
            case measure => simp [intOf]; have := Hc.out; omega
      · have hks1 : ¬ ((k : Int) < (sn : Int)) := by omega
        have HC : Hid (V2 w pc da 0 L last s s wr ∧ DOk L last ∧ FlOk L s ∧ 0 ≤ last ∧ last ≤ ((k + 1 : Nat) : Int)) := ⟨v2, ok, f, l0, by omega⟩
        obtain ⟨L2, hL2⟩ : ∃ L2, L = L2 := ⟨_, rfl⟩
        obtain ⟨s2, hs2⟩ : ∃ s2, s = s2 := ⟨_, rfl⟩
        obtain ⟨n2, hn2⟩ : ∃ n2, last = n2 := ⟨_, rfl⟩
        rw [hL2, hs2, hn2] at HC
        clear hL2 hs2 hn2 hks HU v2 ok f l0 lk hc hk hkn
        go_wp2_with fail
        obtain ⟨rk, K, T⟩ := HC.out.2.1.tree
        obtain ⟨r, tl, eL, r0, _, _⟩ := T.head
        have hrL : r ∈ L2 := by rw [eL]; exact List.mem_cons_self
        obtain ⟨P, hP⟩ : ∃ P : Nat → Nat → Cel, (fun x y : Nat => picP L2 K r x y) = P := ⟨_, rfl⟩
        obtain ⟨b, hb⟩ : ∃ b, bytesL s2 P = b := ⟨_, rfl⟩
        obtain ⟨kn, hkn⟩ : ∃ kn, cntB (shB s2 P) (s2.H * s2.W) = kn := ⟨_, rfl⟩
        have HT2 : Hid (Tree L2 rk K ∧ r ∈ L2 ∧ r.n = 0 ∧ (fun x y : Nat => picP L2 K r x y) = P ∧ bytesL s2 P = b ∧ cntB (shB s2 P) (s2.H * s2.W) = kn ∧ r.W = s2.W ∧ r.H = s2.H) := ⟨T, hrL, r0, hP, hb, hkn, HC.out.2.2.1.fit r hrL r0⟩
        have HF : Hid (Flushed L2 s2 P b kn) := by
          obtain ⟨M, N, t, _, _, _, _, _, D, _⟩ := HC.out.1.ex
          exact flushed HC.out.2.2.1 T D hrL r0 P hP b hb kn hkn
        clear T eL r0 hrL hP hb hkn
        go_at_call 20
        refine (HC.out.1.shows HT2.out.1 HC.out.2.1 HT2.out.2.1 HT2.out.2.2.1 HT2.out.2.2.2.2.2.2.1 HT2.out.2.2.2.2.2.2.2 P HT2.out.2.2.2.1).mono ?_
        rw [HT2.out.2.2.2.2.2.1]
        rintro e x1 ⟨rfl, v1, _⟩
        have H1 : Hid (V2 w pc da 0 L2 n2 s2 s2 x1) := v1
        clear v1
        go_wp2_with fail
        go_at_call 21
        refine (H1.out.flush HT2.out.1 HC.out.2.1 HC.out.2.2.1 HT2.out.2.1 HT2.out.2.2.1 b (by rw [HT2.out.2.2.2.1]; exact HT2.out.2.2.2.2.1)).mono ?_
        rintro e x2 ⟨rfl, v2, _⟩
        have H2 : Hid (V2 w pc da 0 L2 n2 (feedR s2 b) s2 x2) := v2
        clear v2
        go_wp2_with fail
        go_at_call 22
        refine (H2.out.feed b (by have h1 := HF.out.few; have h2 := HF.out.kn8; omega)).mono ?_
        rintro e x3 ⟨rfl, v3⟩
        have H3 : Hid (V2 w pc da 0 L2 n2 (feedR s2 b) (feedR s2 b) x3) := v3
        clear v3
        obtain ⟨s3, hs3⟩ : ∃ s3, feedR s2 b = s3 := ⟨_, rfl⟩
        have Hs3 : Hid (feedR s2 b = s3) := hs3
        rw [hs3] at H3
        clear hs3
        go_wp2_with fail
        go_at_call 23
        refine H3.out.state.mono ?_
        rintro e x4 ⟨rfl, v4⟩
        have hg : groundB s3 = true := by rw [← Hs3.out]; exact HF.out.ground
        have ht : s3.top = 0 := by rw [← Hs3.out]; exact HF.out.top
        have hbo : s3.bot = (s3.H : Int) - 1 := by rw [← Hs3.out]; exact HF.out.bot
        rw [hg, ht, hbo]
        have H4 : Hid (V2 w pc da 0 L2 n2 s3 s3 x4) := v4
        have hs20 : s3.H ≤ 20 := by rw [← Hs3.out]; exact HF.out.flok.fl.ok.h2
        clear v4 hg ht hbo
        go_upto_region 23 with fail
        have hQ : ∃ x5 B, x4.alloc (.cells #[.int .i64 s3.W, .int .i64 s3.H, .int .i64 s3.x, .int .i64 s3.y, .bool s3.pend, .int .i64 s3.pen.f, .int .i64 s3.pen.b, .bool s3.pen.bo, .bool s3.pen.un, .bool s3.pen.re, .int .i64 0, .int .i64 ((s3.H : Int) - 1), .bool true] 59) = x5 ∧ x4.heap.size = B ∧ V2 w pc da B L2 n2 s3 s3 x5 ∧ x5.heap[B]? = some (.cells #[.int .i64 s3.W, .int .i64 s3.H, .int .i64 s3.x, .int .i64 s3.y, .bool s3.pend, .int .i64 s3.pen.f, .int .i64 s3.pen.b, .bool s3.pen.bo, .bool s3.pen.un, .bool s3.pen.re, .int .i64 0, .int .i64 ((s3.H : Int) - 1), .bool true] 59) := ⟨_, _, rfl, rfl, H4.out.rebase ((Below.refl _ _).alloc (Nat.le_refl _) _) (by simp), heap_new _ _⟩
        obtain ⟨x5, B, hx5, hB, v5, bB⟩ := hQ
        rw [hx5]
        try rw [hB]
        have H5 : Hid (V2 w pc da B L2 n2 s3 s3 x5 ∧ x5.heap[B]? = some (.cells #[.int .i64 s3.W, .int .i64 s3.H, .int .i64 s3.x, .int .i64 s3.y, .bool s3.pend, .int .i64 s3.pen.f, .int .i64 s3.pen.b, .bool s3.pen.bo, .bool s3.pen.un, .bool s3.pen.re, .int .i64 0, .int .i64 ((s3.H : Int) - 1), .bool true] 59)) := ⟨v5, bB⟩
        clear hx5 hB v5 bB
        have HF3 : Hid (FlOk L2 s3 ∧ cntB (shB s3 P) (s3.H * s3.W) = 0 ∧ bytesL s3 P = []) := by
          have q := HF.out
          rw [← Hs3.out]
          exact ⟨q.flok, q.left, q.again⟩
        go_wp2_with fail
        go_at_call 20
        refine (H5.out.1.shows HT2.out.1 HC.out.2.1 HT2.out.2.1 HT2.out.2.2.1 (HF3.out.1.fit r HT2.out.2.1 HT2.out.2.2.1).1 (HF3.out.1.fit r HT2.out.2.1 HT2.out.2.2.1).2 P HT2.out.2.2.2.1).mono ?_
        rw [HF3.out.2.1]
        rintro e x6 ⟨rfl, v6, b6⟩
        have H6 : Hid (V2 w pc da B L2 n2 s3 s3 x6 ∧ x6.heap[B]? = some (.cells #[.int .i64 s3.W, .int .i64 s3.H, .int .i64 s3.x, .int .i64 s3.y, .bool s3.pend, .int .i64 s3.pen.f, .int .i64 s3.pen.b, .bool s3.pen.bo, .bool s3.pen.un, .bool s3.pen.re, .int .i64 0, .int .i64 ((s3.H : Int) - 1), .bool true] 59)) := ⟨v6, b6.trans H5.out.2⟩
        clear v6 b6
        go_wp2_with fail
        go_at_call 21
        refine (H6.out.1.flush HT2.out.1 HC.out.2.1 HF3.out.1 HT2.out.2.1 HT2.out.2.2.1 [] (by rw [HT2.out.2.2.2.1]; exact HF3.out.2.2)).mono ?_
        rintro e x7 ⟨rfl, v7, b7⟩
        have bB : x7.heap[B]? = some (.cells #[.int .i64 s3.W, .int .i64 s3.H, .int .i64 s3.x, .int .i64 s3.y, .bool s3.pend, .int .i64 s3.pen.f, .int .i64 s3.pen.b, .bool s3.pen.bo, .bool s3.pen.un, .bool s3.pen.re, .int .i64 0, .int .i64 ((s3.H : Int) - 1), .bool true] 59) := b7.trans H6.out.2
        have g1 : x7.cell? ⟨B, 1, none⟩ = some (.int .i64 s3.H) := cell_of_block bB 1
        have g10 : x7.cell? ⟨B, 10, none⟩ = some (.int .i64 0) := cell_of_block bB 10
        have g11 : x7.cell? ⟨B, 11, none⟩ = some (.int .i64 ((s3.H : Int) - 1)) := cell_of_block bB 11
        have g12 : x7.cell? ⟨B, 12, none⟩ = some (.bool true) := cell_of_block bB 12
        have HN : Hid (Ve w pc da (k + 1) x7) := ⟨L2, n2, s3, HC.out.2.2.2.1, HC.out.2.2.2.2, HC.out.2.1, HF3.out.1, v7.zero⟩
        have hfew : (b.length : Int) ≤ 64 * (kn : Int) + 16 := by have := HF.out.few; omega
        have hkn8 : (kn : Int) ≤ 800 := by have := HF.out.kn8; omega
        have hbl : (b.length : Int) ≤ 100000 := by omega
        have ebl : ((({ data := b.toArray } : ByteArray).size : Nat) : Int) = (b.length : Int) := rfl
        have hs21 : (s3.H : Int) ≤ 20 := by omega
        clear v7 b7 bB hs20
        by_cases hk0 : kn = 0
        · have hb0 := HF.out.none hk0
          subst hb0
          subst hk0
          clear hfew hkn8 hbl
          go_wp2_with fail
          go_roundw
          case rel => exact ⟨k + 1, by go_num, by have := Hc.out; omega, by have := Hc.out; omega, HN.out⟩
          case measure => simp [intOf]; have := Hc.out; omega
        · have hk1 : ¬ ((kn : Int) = 0) := by omega
          have hk2 : ((kn : Int) == 0) = false := by simpa using hk1
          have hgt : ¬ (64 * (kn : Int) + 16 < (b.length : Int)) := by omega
          clear hk0
          go_wp2_with fail
          go_roundw
          case rel => exact ⟨k + 1, by go_num, by have := Hc.out; omega, by have := Hc.out; omega, HN.out⟩
          case measure => simp [intOf]; have := Hc.out; omega
    · have HB : Hid (Below w.heap.size w wr) := by
        obtain ⟨_, _, _, _, _, _, _, v2⟩ := HU.out.ex
        exact v2.bel
      by_cases hq : k ≤ sn
      · have hq1 : (k : Int) ≤ (sn : Int) := by omega
        have hq2 : ¬ ((k : Int) < 200) := by omega
        clear hq hc hk hkn HU
        go_wp2_with fail
        go_ret
        exact ⟨rfl, HB.out⟩
      · have hq1 : ¬ ((k : Int) ≤ (sn : Int)) := by omega
        clear hq hc hk hkn HU
        go_wp2_with fail
        go_ret
        exact ⟨rfl, HB.out⟩
end Go.Proofs.YtjlfibhbfdckpaaGreatDoor
