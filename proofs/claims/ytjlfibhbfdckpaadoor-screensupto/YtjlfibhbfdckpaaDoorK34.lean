/- Texts of the proof, one behind the other: ShE, ShF. -/
import Derived.Test.YtjlfibhbfdckpaaDoorK32
import Derived.Test.YtjlfibhbfdckpaaDoorK33
/- The statement with the document's answer: a pair is fed, way y. -/
namespace Go.Proofs.YtjlfibhbfdckpaaDoor
open Go.RowKit
attribute [local go_sem ↓] Go.wp_at_zero Go.wp_at_succ
set_option maxRecDepth 10000 in
set_option maxHeartbeats 4000000 in
theorem lFeedy0 (pc bs bg g N rs rc rg cap M : Nat) (s : Rs) (on sz : Int) (W H : Nat) (lk : Int) (tx : ByteArray) (w : World) (C : CsAt w pc bs bg g N s) (R : RefAt w rs rc rg cap M s) (hB : BOk s.B) (T : Tabs w)
    (hsep : ∀ i, (i = pc ∨ i = bs ∨ i = bg ∨ i = g) → ¬ (i = rs ∨ i = rc ∨ i = rg)) (hr : 2 ≤ rs ∧ 2 ≤ rc ∧ 2 ≤ rg) (hz : (sz.tmod 2 == 0) = false) (w1 : 1 ≤ W) (w2 : W ≤ 40) (h1 : 1 ≤ H) (h2 : H ≤ 20) (hl : (lk.tmod 2 == 0) = true) (hb : s.B.size + tx.size ≤ 100000000000) :
    Calls Tryd.prog 8 #[.agg #[.pointer (some ⟨pc, 0, none⟩), .pointer (some ⟨rs, 0, none⟩)], feedAgg on sz W H lk tx] w (FPost pc bs bg g rs rc rg s tx w) := by
  have hz' : (sz.tmod 2 != 0) = !false := by simp only [bne, hz]
  have hl' : (lk.tmod 2 != 0) = !true := by simp only [bne, hl]
  have HsR : Hid (¬ (pc = rs ∨ pc = rc ∨ pc = rg) ∧ ¬ (bs = rs ∨ bs = rc ∨ bs = rg) ∧ ¬ (bg = rs ∨ bg = rc ∨ bg = rg) ∧ ¬ (g = rs ∨ g = rc ∨ g = rg)) := ⟨hsep pc (Or.inl rfl), hsep bs (Or.inr (Or.inl rfl)), hsep bg (Or.inr (Or.inr (Or.inl rfl))), hsep g (Or.inr (Or.inr (Or.inr rfl)))⟩
  have HsP : Hid (¬ (rs = bs ∨ rs = bg ∨ rs = g) ∧ ¬ (rc = bs ∨ rc = bg ∨ rc = g) ∧ ¬ (rg = bs ∨ rg = bg ∨ rg = g)) := ⟨fun h => hsep rs (Or.inr h) (Or.inl rfl), fun h => hsep rc (Or.inr h) (Or.inr (Or.inl rfl)), fun h => hsep rg (Or.inr h) (Or.inr (Or.inr rfl))⟩
  have Hlt : Hid ((pc < w.heap.size ∧ bs < w.heap.size ∧ bg < w.heap.size ∧ g < w.heap.size) ∧ (rs < w.heap.size ∧ rc < w.heap.size ∧ rg < w.heap.size) ∧ (2 ≤ bs ∧ 2 ≤ bg ∧ 2 ≤ g) ∧ (2 ≤ rs ∧ 2 ≤ rc ∧ 2 ≤ rg)) := by
    obtain ⟨t, P, _⟩ := C.pr
    exact ⟨⟨C.lt, P.lt, P.gr.lt, P.gr.glt⟩, ⟨R.lt, R.cels.lt, R.cels.glt⟩, ⟨C.l1, C.l2, C.l3⟩, hr⟩
  have HC : Hid (CsAt w pc bs bg g N s) := C
  have HR : Hid (RefAt w rs rc rg cap M s) := R
  have HB : Hid (BOk s.B) := hB
  have HT : Hid (Tabs w) := T
  have HOK : Hid s.Ok := C.ok
  clear C R hB T hsep hr
  go_enter Tryd.func8, Tryd.ntmps8
  go_wp2_with fail
  have hbl : Below w.heap.size w ((w.alloc (.cells #[.pointer (some ⟨pc, 0, none⟩), .pointer (some ⟨rs, 0, none⟩)] 26)).alloc (.cells #[.int .i64 on, .int .i64 sz, .int .i64 W, .int .i64 H, .int .i64 lk, .string tx] 32)) := ((Below.refl _ _).alloc (Nat.le_refl _) _).alloc (by simp) _
  have hs0 : ((w.alloc (.cells #[.pointer (some ⟨pc, 0, none⟩), .pointer (some ⟨rs, 0, none⟩)] 26)).alloc (.cells #[.int .i64 on, .int .i64 sz, .int .i64 W, .int .i64 H, .int .i64 lk, .string tx] 32)).heap.size = w.heap.size + 2 := by simp
  have HF : Hid (FdAt ((w.alloc (.cells #[.pointer (some ⟨pc, 0, none⟩), .pointer (some ⟨rs, 0, none⟩)] 26)).alloc (.cells #[.int .i64 on, .int .i64 sz, .int .i64 W, .int .i64 H, .int .i64 lk, .string tx] 32)) (w.heap.size + 1) on sz W H lk tx) := by
    show _ = _
    have := heap_new (w.alloc (.cells #[.pointer (some ⟨pc, 0, none⟩), .pointer (some ⟨rs, 0, none⟩)] 26)) (.cells #[.int .i64 on, .int .i64 sz, .int .i64 W, .int .i64 H, .int .i64 lk, .string tx] 32)
    rwa [size_alloc] at this
  have HPp : Hid (PpAt ((w.alloc (.cells #[.pointer (some ⟨pc, 0, none⟩), .pointer (some ⟨rs, 0, none⟩)] 26)).alloc (.cells #[.int .i64 on, .int .i64 sz, .int .i64 W, .int .i64 H, .int .i64 lk, .string tx] 32)) w.heap.size (some ⟨pc, 0, none⟩) (some ⟨rs, 0, none⟩)) := by
    show _ = _
    rw [Below.heap_alloc _ _ _ (by simp)]
    exact heap_new w _
  replace HC : Hid (CsAt ((w.alloc (.cells #[.pointer (some ⟨pc, 0, none⟩), .pointer (some ⟨rs, 0, none⟩)] 26)).alloc (.cells #[.int .i64 on, .int .i64 sz, .int .i64 W, .int .i64 H, .int .i64 lk, .string tx] 32)) pc bs bg g N s) := HC.out.below hbl
  replace HR : Hid (RefAt ((w.alloc (.cells #[.pointer (some ⟨pc, 0, none⟩), .pointer (some ⟨rs, 0, none⟩)] 26)).alloc (.cells #[.int .i64 on, .int .i64 sz, .int .i64 W, .int .i64 H, .int .i64 lk, .string tx] 32)) rs rc rg cap M s) := HR.out.below hbl
  replace HT : Hid (Tabs ((w.alloc (.cells #[.pointer (some ⟨pc, 0, none⟩), .pointer (some ⟨rs, 0, none⟩)] 26)).alloc (.cells #[.int .i64 on, .int .i64 sz, .int .i64 W, .int .i64 H, .int .i64 lk, .string tx] 32))) := HT.out.below hbl
  have HK : Hid (Keep (fun i => i = bs ∨ i = bg ∨ i = g ∨ i = rs ∨ i = rc ∨ i = rg) w ((w.alloc (.cells #[.pointer (some ⟨pc, 0, none⟩), .pointer (some ⟨rs, 0, none⟩)] 26)).alloc (.cells #[.int .i64 on, .int .i64 sz, .int .i64 W, .int .i64 H, .int .i64 lk, .string tx] 32))) := Keep.below _ hbl
  generalize (w.alloc (.cells #[.pointer (some ⟨pc, 0, none⟩), .pointer (some ⟨rs, 0, none⟩)] 26)).alloc (.cells #[.int .i64 on, .int .i64 sz, .int .i64 W, .int .i64 H, .int .i64 lk, .string tx] 32) = wa at *
  clear hbl
  go_at_call 15
  refine (cResizeYes pc bs bg g N s W H _ HC.out w1 w2 h1 h2).mono ?_
  rintro e wb ⟨g1, N1, rfl, C1, K1, hg1⟩
  clear HC
  have HC : Hid (CsAt wb pc bs bg g1 N1 (resizeR s W H)) := C1
  replace HR : Hid (RefAt wb rs rc rg cap M s) := HR.out.keep K1 HsP.out.1 HsP.out.2.1 HsP.out.2.2
  replace HT : Hid (Tabs wb) := HT.out.keep K1 (by have := Hlt.out; omega) (by have := Hlt.out; omega)
  replace HK : Hid (Keep (fun i => i = bs ∨ i = bg ∨ i = g ∨ i = rs ∨ i = rc ∨ i = rg) w wb) := HK.out.trans K1 (fun i _ h => keepP0 h)
  have zwb := K1.size
  replace HF : Hid (FdAt wb (w.heap.size + 1) on sz W H lk tx) := HF.out.keep K1 (by have := Hlt.out; omega)
  replace HPp : Hid (PpAt wb w.heap.size (some ⟨pc, 0, none⟩) (some ⟨rs, 0, none⟩)) := HPp.out.keep K1 (by have := Hlt.out; omega)
  have lg1 : g1 < wb.heap.size := by obtain ⟨t, P, _⟩ := HC.out.pr; exact P.gr.glt
  have hg1' : g1 = g ∨ w.heap.size + 2 ≤ g1 := by omega
  clear C1 K1 hg1
  have q0 := HPp.out.c0
  have q1 := HPp.out.c1
  have f2 := HF.out.c2
  have f3 := HF.out.c3
  go_wp2_with fail
  go_at_call 20
  refine (refResizeYes rs rc rg cap M s W H _ HR.out HOK.out w1 w2 h1 h2).mono ?_
  rintro e wc ⟨rg1, cap1, M1, rfl, R1, K1, hr1⟩
  clear HR
  have HR : Hid (RefAt wc rs rc rg1 cap1 M1 (resizeR s W H)) := R1
  replace HC : Hid (CsAt wc pc bs bg g1 N1 (resizeR s W H)) := HC.out.keep K1 HsR.out.1 HsR.out.2.1 HsR.out.2.2.1 (sepF HsR.out.2.2.2 hg1' (by have := Hlt.out; omega) (by have := Hlt.out; omega) (by have := Hlt.out; omega))
  replace HT : Hid (Tabs wc) := HT.out.keep K1 (by have := Hlt.out; omega) (by have := Hlt.out; omega)
  replace HK : Hid (Keep (fun i => i = bs ∨ i = bg ∨ i = g ∨ i = rs ∨ i = rc ∨ i = rg) w wc) := HK.out.trans K1 (fun i _ h => keepR0 h)
  have zwc := K1.size
  replace HF : Hid (FdAt wc (w.heap.size + 1) on sz W H lk tx) := HF.out.keep K1 (by have := Hlt.out; omega)
  replace HPp : Hid (PpAt wc w.heap.size (some ⟨pc, 0, none⟩) (some ⟨rs, 0, none⟩)) := HPp.out.keep K1 (by have := Hlt.out; omega)
  have lr1 : rg1 < wc.heap.size := HR.out.cels.glt
  have hr1' : rg1 = rg ∨ w.heap.size + 2 ≤ rg1 := by omega
  have hne1 : g1 ≠ rg1 := neGR HsR.out.2.2.2 hg1' (show rg1 = rg ∨ wb.heap.size ≤ rg1 from hr1) lg1 (by have := Hlt.out; omega)
  have HsQ : Hid (¬ (rg1 = bs ∨ rg1 = bg ∨ rg1 = g1)) := sepQ HsP.out.2.2 hr1' (by have := Hlt.out; omega) (by have := Hlt.out; omega) hne1
  have HsS : Hid (¬ (g1 = rs ∨ g1 = rc ∨ g1 = rg1)) := sepS HsR.out.2.2.2 hg1' (by have := Hlt.out; omega) (by have := Hlt.out; omega) hne1
  clear R1 K1 hr1 q0 q1 f2 f3
  have q0 := HPp.out.c0
  have q1 := HPp.out.c1
  have f4 := HF.out.c4
  have f5 := HF.out.c5
  have HBs : Hid (BOk (resizeR s W H).B ∧ (resizeR s W H).B.size = s.B.size) := ⟨HB.out, rfl⟩
  have HO2 : Hid (resizeR s W H).Ok := resizeR_ok HOK.out w1 w2 h1 h2
  generalize resizeR s W H = s2 at *
  go_wp2_with fail
  go_at_call 12
  refine (cFeedS pc bs bg g1 N1 s2 tx _ HC.out HT.out (by omega)).mono ?_
  rintro e wd ⟨rfl, C2, K2⟩
  clear HC
  have HC : Hid (CsAt wd pc bs bg g1 N1 (feedR s2 tx.data.toList)) := C2
  replace HR : Hid (RefAt wd rs rc rg1 cap1 M1 s2) := HR.out.keep K2 (sepG HsP.out.1 hg1' (by have := Hlt.out; omega)) (sepG HsP.out.2.1 hg1' (by have := Hlt.out; omega)) HsQ.out
  replace HT : Hid (Tabs wd) := HT.out.keep K2 (by have := Hlt.out; omega) (by have := Hlt.out; omega)
  replace HK : Hid (Keep (fun i => i = bs ∨ i = bg ∨ i = g ∨ i = rs ∨ i = rc ∨ i = rg) w wd) := HK.out.trans K2 (fun i hi h => keepP hi hg1' h)
  have zwd := K2.size
  replace HF : Hid (FdAt wd (w.heap.size + 1) on sz W H lk tx) := HF.out.keep K2 (by have := Hlt.out; omega)
  replace HPp : Hid (PpAt wd w.heap.size (some ⟨pc, 0, none⟩) (some ⟨rs, 0, none⟩)) := HPp.out.keep K2 (by have := Hlt.out; omega)
  clear C2 K2 q0 q1 f4 f5
  have q0 := HPp.out.c0
  have q1 := HPp.out.c1
  have f5 := HF.out.c5
  go_wp2_with fail
  go_at_call 21
  refine (refFeed rs rc rg1 cap1 M1 s2 tx _ HR.out HO2.out HBs.out.1 (by have := HBs.out.2; omega)).mono ?_
  rintro e we ⟨rg2, cap2, M2, rfl, R2, K2, hr2⟩
  clear HR
  have HR : Hid (RefAt we rs rc rg2 cap2 M2 (feedR s2 tx.data.toList)) := R2
  replace HC : Hid (CsAt we pc bs bg g1 N1 (feedR s2 tx.data.toList)) := HC.out.keep K2 (sepG HsR.out.1 hr1' (by have := Hlt.out; omega)) (sepG HsR.out.2.1 hr1' (by have := Hlt.out; omega)) (sepG HsR.out.2.2.1 hr1' (by have := Hlt.out; omega)) HsS.out
  replace HT : Hid (Tabs we) := HT.out.keep K2 (by have := Hlt.out; omega) (by have := Hlt.out; omega)
  replace HK : Hid (Keep (fun i => i = bs ∨ i = bg ∨ i = g ∨ i = rs ∨ i = rc ∨ i = rg) w we) := HK.out.trans K2 (fun i hi h => keepR hi hr1' h)
  have zwe := K2.size
  replace HF : Hid (FdAt we (w.heap.size + 1) on sz W H lk tx) := HF.out.keep K2 (by have := Hlt.out; omega)
  replace HPp : Hid (PpAt we w.heap.size (some ⟨pc, 0, none⟩) (some ⟨rs, 0, none⟩)) := HPp.out.keep K2 (by have := Hlt.out; omega)
  have hr2' : rg2 = rg ∨ w.heap.size ≤ rg2 := by omega
  have hne2 : g1 ≠ rg2 := neG2 hne1 (show rg2 = rg1 ∨ wd.heap.size ≤ rg2 from hr2) (by omega)
  have Hsz : Hid ((feedR s2 tx.data.toList).B.size ≤ s.B.size + tx.size ∧ BOk (feedR s2 tx.data.toList).B) := by
    have q := feed_size tx.data.toList HBs.out.1
    refine ⟨?_, q.2⟩
    have a := q.1
    rw [HBs.out.2] at a
    exact a
  clear R2 K2 q0 q1 f5
  have f4 := HF.out.c4
  have q0 := HPp.out.c0
  have q1 := HPp.out.c1
  go_wp2_with fail
  go_ret
  exact ⟨g1, N1, rg2, cap2, M2, feedR s2 tx.data.toList, rfl, HC.out, HR.out, Hsz.out.2, HK.out, by omega, hr2', hne2, Hsz.out.1⟩
set_option maxRecDepth 10000 in
set_option maxHeartbeats 4000000 in
theorem lFeedy1 (pc bs bg g N rs rc rg cap M : Nat) (s : Rs) (on sz : Int) (W H : Nat) (lk : Int) (tx : ByteArray) (w : World) (C : CsAt w pc bs bg g N s) (R : RefAt w rs rc rg cap M s) (hB : BOk s.B) (T : Tabs w)
    (hsep : ∀ i, (i = pc ∨ i = bs ∨ i = bg ∨ i = g) → ¬ (i = rs ∨ i = rc ∨ i = rg)) (hr : 2 ≤ rs ∧ 2 ≤ rc ∧ 2 ≤ rg) (hz : (sz.tmod 2 == 0) = false) (w1 : 1 ≤ W) (w2 : W ≤ 40) (h1 : 1 ≤ H) (h2 : H ≤ 20) (hl : (lk.tmod 2 == 0) = false) (hb : s.B.size + tx.size ≤ 100000000000) :
    Calls Tryd.prog 8 #[.agg #[.pointer (some ⟨pc, 0, none⟩), .pointer (some ⟨rs, 0, none⟩)], feedAgg on sz W H lk tx] w (FPost pc bs bg g rs rc rg s tx w) := by
  have hz' : (sz.tmod 2 != 0) = !false := by simp only [bne, hz]
  have hl' : (lk.tmod 2 != 0) = !false := by simp only [bne, hl]
  have HsR : Hid (¬ (pc = rs ∨ pc = rc ∨ pc = rg) ∧ ¬ (bs = rs ∨ bs = rc ∨ bs = rg) ∧ ¬ (bg = rs ∨ bg = rc ∨ bg = rg) ∧ ¬ (g = rs ∨ g = rc ∨ g = rg)) := ⟨hsep pc (Or.inl rfl), hsep bs (Or.inr (Or.inl rfl)), hsep bg (Or.inr (Or.inr (Or.inl rfl))), hsep g (Or.inr (Or.inr (Or.inr rfl)))⟩
  have HsP : Hid (¬ (rs = bs ∨ rs = bg ∨ rs = g) ∧ ¬ (rc = bs ∨ rc = bg ∨ rc = g) ∧ ¬ (rg = bs ∨ rg = bg ∨ rg = g)) := ⟨fun h => hsep rs (Or.inr h) (Or.inl rfl), fun h => hsep rc (Or.inr h) (Or.inr (Or.inl rfl)), fun h => hsep rg (Or.inr h) (Or.inr (Or.inr rfl))⟩
  have Hlt : Hid ((pc < w.heap.size ∧ bs < w.heap.size ∧ bg < w.heap.size ∧ g < w.heap.size) ∧ (rs < w.heap.size ∧ rc < w.heap.size ∧ rg < w.heap.size) ∧ (2 ≤ bs ∧ 2 ≤ bg ∧ 2 ≤ g) ∧ (2 ≤ rs ∧ 2 ≤ rc ∧ 2 ≤ rg)) := by
    obtain ⟨t, P, _⟩ := C.pr
    exact ⟨⟨C.lt, P.lt, P.gr.lt, P.gr.glt⟩, ⟨R.lt, R.cels.lt, R.cels.glt⟩, ⟨C.l1, C.l2, C.l3⟩, hr⟩
  have HC : Hid (CsAt w pc bs bg g N s) := C
  have HR : Hid (RefAt w rs rc rg cap M s) := R
  have HB : Hid (BOk s.B) := hB
  have HT : Hid (Tabs w) := T
  have HOK : Hid s.Ok := C.ok
  clear C R hB T hsep hr
  go_enter Tryd.func8, Tryd.ntmps8
  go_wp2_with fail
  have hbl : Below w.heap.size w ((w.alloc (.cells #[.pointer (some ⟨pc, 0, none⟩), .pointer (some ⟨rs, 0, none⟩)] 26)).alloc (.cells #[.int .i64 on, .int .i64 sz, .int .i64 W, .int .i64 H, .int .i64 lk, .string tx] 32)) := ((Below.refl _ _).alloc (Nat.le_refl _) _).alloc (by simp) _
  have hs0 : ((w.alloc (.cells #[.pointer (some ⟨pc, 0, none⟩), .pointer (some ⟨rs, 0, none⟩)] 26)).alloc (.cells #[.int .i64 on, .int .i64 sz, .int .i64 W, .int .i64 H, .int .i64 lk, .string tx] 32)).heap.size = w.heap.size + 2 := by simp
  have HF : Hid (FdAt ((w.alloc (.cells #[.pointer (some ⟨pc, 0, none⟩), .pointer (some ⟨rs, 0, none⟩)] 26)).alloc (.cells #[.int .i64 on, .int .i64 sz, .int .i64 W, .int .i64 H, .int .i64 lk, .string tx] 32)) (w.heap.size + 1) on sz W H lk tx) := by
    show _ = _
    have := heap_new (w.alloc (.cells #[.pointer (some ⟨pc, 0, none⟩), .pointer (some ⟨rs, 0, none⟩)] 26)) (.cells #[.int .i64 on, .int .i64 sz, .int .i64 W, .int .i64 H, .int .i64 lk, .string tx] 32)
    rwa [size_alloc] at this
  have HPp : Hid (PpAt ((w.alloc (.cells #[.pointer (some ⟨pc, 0, none⟩), .pointer (some ⟨rs, 0, none⟩)] 26)).alloc (.cells #[.int .i64 on, .int .i64 sz, .int .i64 W, .int .i64 H, .int .i64 lk, .string tx] 32)) w.heap.size (some ⟨pc, 0, none⟩) (some ⟨rs, 0, none⟩)) := by
    show _ = _
    rw [Below.heap_alloc _ _ _ (by simp)]
    exact heap_new w _
  replace HC : Hid (CsAt ((w.alloc (.cells #[.pointer (some ⟨pc, 0, none⟩), .pointer (some ⟨rs, 0, none⟩)] 26)).alloc (.cells #[.int .i64 on, .int .i64 sz, .int .i64 W, .int .i64 H, .int .i64 lk, .string tx] 32)) pc bs bg g N s) := HC.out.below hbl
  replace HR : Hid (RefAt ((w.alloc (.cells #[.pointer (some ⟨pc, 0, none⟩), .pointer (some ⟨rs, 0, none⟩)] 26)).alloc (.cells #[.int .i64 on, .int .i64 sz, .int .i64 W, .int .i64 H, .int .i64 lk, .string tx] 32)) rs rc rg cap M s) := HR.out.below hbl
  replace HT : Hid (Tabs ((w.alloc (.cells #[.pointer (some ⟨pc, 0, none⟩), .pointer (some ⟨rs, 0, none⟩)] 26)).alloc (.cells #[.int .i64 on, .int .i64 sz, .int .i64 W, .int .i64 H, .int .i64 lk, .string tx] 32))) := HT.out.below hbl
  have HK : Hid (Keep (fun i => i = bs ∨ i = bg ∨ i = g ∨ i = rs ∨ i = rc ∨ i = rg) w ((w.alloc (.cells #[.pointer (some ⟨pc, 0, none⟩), .pointer (some ⟨rs, 0, none⟩)] 26)).alloc (.cells #[.int .i64 on, .int .i64 sz, .int .i64 W, .int .i64 H, .int .i64 lk, .string tx] 32))) := Keep.below _ hbl
  generalize (w.alloc (.cells #[.pointer (some ⟨pc, 0, none⟩), .pointer (some ⟨rs, 0, none⟩)] 26)).alloc (.cells #[.int .i64 on, .int .i64 sz, .int .i64 W, .int .i64 H, .int .i64 lk, .string tx] 32) = wa at *
  clear hbl
  go_at_call 15
  refine (cResizeYes pc bs bg g N s W H _ HC.out w1 w2 h1 h2).mono ?_
  rintro e wb ⟨g1, N1, rfl, C1, K1, hg1⟩
  clear HC
  have HC : Hid (CsAt wb pc bs bg g1 N1 (resizeR s W H)) := C1
  replace HR : Hid (RefAt wb rs rc rg cap M s) := HR.out.keep K1 HsP.out.1 HsP.out.2.1 HsP.out.2.2
  replace HT : Hid (Tabs wb) := HT.out.keep K1 (by have := Hlt.out; omega) (by have := Hlt.out; omega)
  replace HK : Hid (Keep (fun i => i = bs ∨ i = bg ∨ i = g ∨ i = rs ∨ i = rc ∨ i = rg) w wb) := HK.out.trans K1 (fun i _ h => keepP0 h)
  have zwb := K1.size
  replace HF : Hid (FdAt wb (w.heap.size + 1) on sz W H lk tx) := HF.out.keep K1 (by have := Hlt.out; omega)
  replace HPp : Hid (PpAt wb w.heap.size (some ⟨pc, 0, none⟩) (some ⟨rs, 0, none⟩)) := HPp.out.keep K1 (by have := Hlt.out; omega)
  have lg1 : g1 < wb.heap.size := by obtain ⟨t, P, _⟩ := HC.out.pr; exact P.gr.glt
  have hg1' : g1 = g ∨ w.heap.size + 2 ≤ g1 := by omega
  clear C1 K1 hg1
  have q0 := HPp.out.c0
  have q1 := HPp.out.c1
  have f2 := HF.out.c2
  have f3 := HF.out.c3
  go_wp2_with fail
  go_at_call 20
  refine (refResizeYes rs rc rg cap M s W H _ HR.out HOK.out w1 w2 h1 h2).mono ?_
  rintro e wc ⟨rg1, cap1, M1, rfl, R1, K1, hr1⟩
  clear HR
  have HR : Hid (RefAt wc rs rc rg1 cap1 M1 (resizeR s W H)) := R1
  replace HC : Hid (CsAt wc pc bs bg g1 N1 (resizeR s W H)) := HC.out.keep K1 HsR.out.1 HsR.out.2.1 HsR.out.2.2.1 (sepF HsR.out.2.2.2 hg1' (by have := Hlt.out; omega) (by have := Hlt.out; omega) (by have := Hlt.out; omega))
  replace HT : Hid (Tabs wc) := HT.out.keep K1 (by have := Hlt.out; omega) (by have := Hlt.out; omega)
  replace HK : Hid (Keep (fun i => i = bs ∨ i = bg ∨ i = g ∨ i = rs ∨ i = rc ∨ i = rg) w wc) := HK.out.trans K1 (fun i _ h => keepR0 h)
  have zwc := K1.size
  replace HF : Hid (FdAt wc (w.heap.size + 1) on sz W H lk tx) := HF.out.keep K1 (by have := Hlt.out; omega)
  replace HPp : Hid (PpAt wc w.heap.size (some ⟨pc, 0, none⟩) (some ⟨rs, 0, none⟩)) := HPp.out.keep K1 (by have := Hlt.out; omega)
  have lr1 : rg1 < wc.heap.size := HR.out.cels.glt
  have hr1' : rg1 = rg ∨ w.heap.size + 2 ≤ rg1 := by omega
  have hne1 : g1 ≠ rg1 := neGR HsR.out.2.2.2 hg1' (show rg1 = rg ∨ wb.heap.size ≤ rg1 from hr1) lg1 (by have := Hlt.out; omega)
  have HsQ : Hid (¬ (rg1 = bs ∨ rg1 = bg ∨ rg1 = g1)) := sepQ HsP.out.2.2 hr1' (by have := Hlt.out; omega) (by have := Hlt.out; omega) hne1
  have HsS : Hid (¬ (g1 = rs ∨ g1 = rc ∨ g1 = rg1)) := sepS HsR.out.2.2.2 hg1' (by have := Hlt.out; omega) (by have := Hlt.out; omega) hne1
  clear R1 K1 hr1 q0 q1 f2 f3
  have q0 := HPp.out.c0
  have q1 := HPp.out.c1
  have f4 := HF.out.c4
  have f5 := HF.out.c5
  have HBs : Hid (BOk (resizeR s W H).B ∧ (resizeR s W H).B.size = s.B.size) := ⟨HB.out, rfl⟩
  have HO2 : Hid (resizeR s W H).Ok := resizeR_ok HOK.out w1 w2 h1 h2
  generalize resizeR s W H = s2 at *
  go_wp2_with fail
  go_at_call 12
  refine (cFeedS pc bs bg g1 N1 s2 tx _ HC.out HT.out (by omega)).mono ?_
  rintro e wd ⟨rfl, C2, K2⟩
  clear HC
  have HC : Hid (CsAt wd pc bs bg g1 N1 (feedR s2 tx.data.toList)) := C2
  replace HR : Hid (RefAt wd rs rc rg1 cap1 M1 s2) := HR.out.keep K2 (sepG HsP.out.1 hg1' (by have := Hlt.out; omega)) (sepG HsP.out.2.1 hg1' (by have := Hlt.out; omega)) HsQ.out
  replace HT : Hid (Tabs wd) := HT.out.keep K2 (by have := Hlt.out; omega) (by have := Hlt.out; omega)
  replace HK : Hid (Keep (fun i => i = bs ∨ i = bg ∨ i = g ∨ i = rs ∨ i = rc ∨ i = rg) w wd) := HK.out.trans K2 (fun i hi h => keepP hi hg1' h)
  have zwd := K2.size
  replace HF : Hid (FdAt wd (w.heap.size + 1) on sz W H lk tx) := HF.out.keep K2 (by have := Hlt.out; omega)
  replace HPp : Hid (PpAt wd w.heap.size (some ⟨pc, 0, none⟩) (some ⟨rs, 0, none⟩)) := HPp.out.keep K2 (by have := Hlt.out; omega)
  clear C2 K2 q0 q1 f4 f5
  have q0 := HPp.out.c0
  have q1 := HPp.out.c1
  have f5 := HF.out.c5
  go_wp2_with fail
  go_at_call 21
  refine (refFeed rs rc rg1 cap1 M1 s2 tx _ HR.out HO2.out HBs.out.1 (by have := HBs.out.2; omega)).mono ?_
  rintro e we ⟨rg2, cap2, M2, rfl, R2, K2, hr2⟩
  clear HR
  have HR : Hid (RefAt we rs rc rg2 cap2 M2 (feedR s2 tx.data.toList)) := R2
  replace HC : Hid (CsAt we pc bs bg g1 N1 (feedR s2 tx.data.toList)) := HC.out.keep K2 (sepG HsR.out.1 hr1' (by have := Hlt.out; omega)) (sepG HsR.out.2.1 hr1' (by have := Hlt.out; omega)) (sepG HsR.out.2.2.1 hr1' (by have := Hlt.out; omega)) HsS.out
  replace HT : Hid (Tabs we) := HT.out.keep K2 (by have := Hlt.out; omega) (by have := Hlt.out; omega)
  replace HK : Hid (Keep (fun i => i = bs ∨ i = bg ∨ i = g ∨ i = rs ∨ i = rc ∨ i = rg) w we) := HK.out.trans K2 (fun i hi h => keepR hi hr1' h)
  have zwe := K2.size
  replace HF : Hid (FdAt we (w.heap.size + 1) on sz W H lk tx) := HF.out.keep K2 (by have := Hlt.out; omega)
  replace HPp : Hid (PpAt we w.heap.size (some ⟨pc, 0, none⟩) (some ⟨rs, 0, none⟩)) := HPp.out.keep K2 (by have := Hlt.out; omega)
  have hr2' : rg2 = rg ∨ w.heap.size ≤ rg2 := by omega
  have hne2 : g1 ≠ rg2 := neG2 hne1 (show rg2 = rg1 ∨ wd.heap.size ≤ rg2 from hr2) (by omega)
  have Hsz : Hid ((feedR s2 tx.data.toList).B.size ≤ s.B.size + tx.size ∧ BOk (feedR s2 tx.data.toList).B) := by
    have q := feed_size tx.data.toList HBs.out.1
    refine ⟨?_, q.2⟩
    have a := q.1
    rw [HBs.out.2] at a
    exact a
  clear R2 K2 q0 q1 f5
  have f4 := HF.out.c4
  have q0 := HPp.out.c0
  have q1 := HPp.out.c1
  go_wp2_with fail
  go_at_call 9
  refine (lLook (B := some (⟨pc, bs, bg, g1, N1, rs, rc, rg2, cap2, M2⟩, feedR s2 tx.data.toList)) ⟨rfl, rfl, HC.out, HR.out, Hsz.out.2⟩).mono ?_
  rintro e wf ⟨rfl, b6⟩
  replace HC : Hid (CsAt wf pc bs bg g1 N1 (feedR s2 tx.data.toList)) := HC.out.below b6
  replace HR : Hid (RefAt wf rs rc rg2 cap2 M2 (feedR s2 tx.data.toList)) := HR.out.below b6
  replace HK : Hid (Keep (fun i => i = bs ∨ i = bg ∨ i = g ∨ i = rs ∨ i = rc ∨ i = rg) w wf) := HK.out.thenBelow b6
  clear b6
  go_wp2_with fail
  go_ret
  exact ⟨g1, N1, rg2, cap2, M2, feedR s2 tx.data.toList, rfl, HC.out, HR.out, Hsz.out.2, HK.out, by omega, hr2', hne2, Hsz.out.1⟩
end Go.Proofs.YtjlfibhbfdckpaaDoor

/- The statement with the document's answer: pick, screen, a pair is fed in any way. -/
namespace Go.Proofs.YtjlfibhbfdckpaaDoor
open Go.RowKit
attribute [local go_sem ↓] Go.wp_at_zero Go.wp_at_succ
set_option maxHeartbeats 1000000 in
theorem lPick (c : Int) (n : Nat) (w : World) (hn : 0 < n) (hn2 : (n : Int) ≤ 9223372036854775807) (c0 : -9223372036854775808 ≤ c) (c1 : c ≤ 9223372036854775807) :
    Calls Tryd.prog 7 #[.int .i64 c, .int .i64 n] w fun e w' => e = .returned (.int .i64 (pickK c n)) ∧ w' = w := by
  have n0 : ¬ (n : Int) = 0 := by omega
  have n0' : ((n : Int) == 0) = false := by simp; omega
  have lt := pickK_lt c hn
  by_cases hc : c < 0
  · have e := pickK_neg hn hc
    go_enter Tryd.func7, Tryd.ntmps7
    go_wp2
    go_ret
    exact ⟨rfl, rfl⟩
  · have e := pickK_pos hn hc
    go_enter Tryd.func7, Tryd.ntmps7
    go_wp2
    go_ret
    exact ⟨rfl, rfl⟩
/-- The blocks of a pair. -/
def allB (B : Option (Bk × Rs)) (i : Nat) : Prop := match B with
  | none => False
  | some (k, _) => i = k.pc ∨ i = k.bs ∨ i = k.bg ∨ i = k.g ∨ i = k.rs ∨ i = k.rc ∨ i = k.rg
def sepB (B : Option (Bk × Rs)) : Prop := match B with
  | none => True
  | some (k, _) => (∀ i, (i = k.pc ∨ i = k.bs ∨ i = k.bg ∨ i = k.g) → ¬ (i = k.rs ∨ i = k.rc ∨ i = k.rg)) ∧ 2 ≤ k.rs ∧ 2 ≤ k.rc ∧ 2 ≤ k.rg
def bszB (B : Option (Bk × Rs)) : Nat := match B with
  | none => 0
  | some (_, s) => s.B.size
theorem PairIs.keep {F : Nat → Prop} {w w' : World} {B : Option (Bk × Rs)} {x y : Option Addr} (h : PairIs w B x y) (k : Keep F w w') (d : ∀ i, allB B i → ¬ F i) : PairIs w' B x y := by
  cases B with
  | none => exact h
  | some q =>
    obtain ⟨h1, h2, h3, h4, h5⟩ := h
    exact ⟨h1, h2, h3.keep k (d _ (by simp [allB])) (d _ (by simp [allB])) (d _ (by simp [allB])) (d _ (by simp [allB])), h4.keep k (d _ (by simp [allB])) (d _ (by simp [allB])) (d _ (by simp [allB])), h5⟩
theorem PairIs.lt {w : World} {B : Option (Bk × Rs)} {x y : Option Addr} (h : PairIs w B x y) {i : Nat} (hi : allB B i) : i < w.heap.size := by
  cases B with
  | none => cases hi
  | some q =>
    obtain ⟨h1, h2, h3, h4, h5⟩ := h
    obtain ⟨t, P, _⟩ := h3.pr
    rcases hi with e | e | e | e | e | e | e <;> subst e
    · exact h3.lt
    · exact P.lt
    · exact P.gr.lt
    · exact P.gr.glt
    · exact h4.lt
    · exact h4.cels.lt
    · exact h4.cels.glt
theorem lFeedAny {w : World} {B : Option (Bk × Rs)} {x y : Option Addr} (h : PairIs w B x y) (hs : sepB B) (T : Tabs w) (on sz W H lk : Int) (tx : ByteArray) (hb : bszB B + tx.size ≤ 100000000000) :
    Calls Tryd.prog 8 #[.agg #[.pointer x, .pointer y], feedAgg on sz W H lk tx] w fun e w' => ∃ B', e = .returned (.bool true) ∧ PairIs w' B' x y ∧ sepB B' ∧ Keep (allB B) w w' ∧ (∀ i, allB B' i → allB B i ∨ w.heap.size ≤ i) ∧ bszB B' ≤ bszB B + tx.size := by
  cases B with
  | none =>
    obtain ⟨rfl, rfl⟩ := h
    have fin : (Calls Tryd.prog 8 #[.agg #[.pointer none, .pointer none], feedAgg on sz W H lk tx] w fun e w' => e = .returned (.bool true) ∧ Below w.heap.size w w') := by
      cases hz : (sz.tmod 2 == 0) <;> cases hl : (lk.tmod 2 == 0)
      · exact lFeedNilB1 on sz W H lk tx w hz hl
      · exact lFeedNilB0 on sz W H lk tx w hz hl
      · exact lFeedNilA1 on sz W H lk tx w hz hl
      · exact lFeedNilA0 on sz W H lk tx w hz hl
    refine fin.mono ?_
    rintro e w' ⟨rfl, b⟩
    exact ⟨none, rfl, ⟨rfl, rfl⟩, trivial, Keep.below _ b, fun i hi => False.elim hi, Nat.zero_le _⟩
  | some q =>
    obtain ⟨⟨pc, bs, bg, g, N, rs, rc, rg, cap, M⟩, s⟩ := q
    obtain ⟨rfl, rfl, C, R, hB⟩ := h
    obtain ⟨hsep, hr⟩ := hs
    dsimp only at C R hB hsep hr
    have fin : (Calls Tryd.prog 8 #[.agg #[.pointer (some ⟨pc, 0, none⟩), .pointer (some ⟨rs, 0, none⟩)], feedAgg on sz W H lk tx] w (FPost pc bs bg g rs rc rg s tx w)) := by
      cases hz : (sz.tmod 2 == 0) with
      | true => cases hl : (lk.tmod 2 == 0) with
        | true => exact lFeed00 pc bs bg g N rs rc rg cap M s on sz W H lk tx w C R hB T hsep hr hz hl hb
        | false => exact lFeed01 pc bs bg g N rs rc rg cap M s on sz W H lk tx w C R hB T hsep hr hz hl hb
      | false => cases hw : sizeB W H with
        | false => cases hl : (lk.tmod 2 == 0) with
          | true => exact lFeedn0 pc bs bg g N rs rc rg cap M s on sz W H lk tx w C R hB T hsep hr hz hw hl hb
          | false => exact lFeedn1 pc bs bg g N rs rc rg cap M s on sz W H lk tx w C R hB T hsep hr hz hw hl hb
        | true =>
          obtain ⟨a1, a2, a3, a4⟩ := sizeB_iff.1 hw
          obtain ⟨W, rfl⟩ := Int.eq_ofNat_of_zero_le (show 0 ≤ W by omega)
          obtain ⟨H, rfl⟩ := Int.eq_ofNat_of_zero_le (show 0 ≤ H by omega)
          cases hl : (lk.tmod 2 == 0) with
          | true => exact lFeedy0 pc bs bg g N rs rc rg cap M s on sz W H lk tx w C R hB T hsep hr hz (by omega) (by omega) (by omega) (by omega) hl hb
          | false => exact lFeedy1 pc bs bg g N rs rc rg cap M s on sz W H lk tx w C R hB T hsep hr hz (by omega) (by omega) (by omega) (by omega) hl hb
    have hlt : ∀ i, (i = pc ∨ i = bs ∨ i = bg ∨ i = g ∨ i = rs ∨ i = rc ∨ i = rg) → i < w.heap.size := fun i hi =>
      PairIs.lt (B := some (⟨pc, bs, bg, g, N, rs, rc, rg, cap, M⟩, s)) (x := some ⟨pc, 0, none⟩) (y := some ⟨rs, 0, none⟩) ⟨rfl, rfl, C, R, hB⟩ hi
    refine fin.mono ?_
    rintro e w' ⟨g', N', rg', cap', M', s', rfl, C', R', hB', K', hg, hrg, hne, hsz⟩
    have l1 := hlt pc (by omega)
    have l2 := hlt bs (by omega)
    have l3 := hlt bg (by omega)
    have l4 := hlt g (by omega)
    have l5 := hlt rs (by omega)
    have l6 := hlt rc (by omega)
    have l7 := hlt rg (by omega)
    refine ⟨some (⟨pc, bs, bg, g', N', rs, rc, rg', cap', M'⟩, s'), rfl, ⟨rfl, rfl, C', R', hB'⟩, ⟨?_, hr.1, hr.2.1, ?_⟩, K'.mono (fun i hi => ?_), ?_, hsz⟩
    · intro i hi
      show ¬ (i = rs ∨ i = rc ∨ i = rg')
      rcases hi with e | e | e | e
      · subst e; exact sepG (hsep _ (Or.inl rfl)) hrg l1
      · subst e; exact sepG (hsep _ (Or.inr (Or.inl rfl))) hrg l2
      · subst e; exact sepG (hsep _ (Or.inr (Or.inr (Or.inl rfl)))) hrg l3
      · subst e; exact sepS (hsep _ (Or.inr (Or.inr (Or.inr rfl)))) hg l5 l6 hne
    · show 2 ≤ rg'
      have := hr.2.2
      omega
    · show i = pc ∨ i = bs ∨ i = bg ∨ i = g ∨ i = rs ∨ i = rc ∨ i = rg
      omega
    · intro i hi
      show (i = pc ∨ i = bs ∨ i = bg ∨ i = g ∨ i = rs ∨ i = rc ∨ i = rg) ∨ w.heap.size ≤ i
      have hi' : i = pc ∨ i = bs ∨ i = bg ∨ i = g' ∨ i = rs ∨ i = rc ∨ i = rg' := hi
      omega
set_option maxHeartbeats 2000000 in
theorem lScreenNo (x y : Int) (w : World) (hs : sizeB x y = false) :
    Calls Tryd.prog 6 #[.int .i64 x, .int .i64 y] w fun e w' => e = .returned (.tuple #[.agg #[.pointer none, .pointer none], .bool true]) ∧ Below w.heap.size w w' := by
  go_enter Tryd.func6, Tryd.ntmps6
  go_wp2_with (first | (go_at_call 18; refine (cNewNo _ _ _ hs).mono ?_; rintro e w' ⟨rfl, hw'⟩; replace hw' := hw'.symm; subst hw') | (go_at_call 19; refine (refNewNo _ _ _ hs).mono ?_; rintro e w' ⟨rfl, hw'⟩; replace hw' := hw'.symm; subst hw'))
  exact bodyPost_ret (v := .tuple #[.agg #[.pointer none, .pointer none], .bool true]) (by simp [results, Tryd.results6, go_sem]) rfl ⟨rfl, (Below.refl _ _).alloc (Nat.le_refl _) _⟩
set_option maxHeartbeats 2000000 in
theorem lScreenYes (W H : Nat) (w : World) (w1 : 1 ≤ W) (w2 : W ≤ 40) (h1 : 1 ≤ H) (h2 : H ≤ 20) (hw : 2 ≤ w.heap.size) :
    Calls Tryd.prog 6 #[.int .i64 W, .int .i64 H] w fun e w' => ∃ k px py, e = .returned (.tuple #[.agg #[.pointer px, .pointer py], .bool true]) ∧ PairIs w' (some (k, newR W H)) px py ∧ sepB (some (k, newR W H)) ∧ Below w.heap.size w w' ∧ (∀ i, allB (some (k, newR W H)) i → w.heap.size ≤ i) := by
  go_enter Tryd.func6, Tryd.ntmps6
  go_wp2_with fail
  go_at_call 18
  refine (cNewYes W H _ w1 w2 h1 h2 (by rw [size_alloc]; omega)).mono ?_
  rintro e wa ⟨pc, bs, bg, g, rfl, C1, b1, p0, p1, p2, p3⟩
  rw [size_alloc] at b1 p0 p1 p2 p3
  have c0 : wa.cell? ⟨w.heap.size, 0, none⟩ = some (.pointer none) := by rw [b1.cells (by omega), cell_of_block (heap_new w _)]; rfl
  have c1 : wa.cell? ⟨w.heap.size, 1, none⟩ = some (.pointer none) := by rw [b1.cells (by omega), cell_of_block (heap_new w _)]; rfl
  have fz : ∀ o, wa.frozen? ⟨w.heap.size, o, none⟩ = false := fun o => by rw [b1.marks (by omega), frozen_of_block (heap_new w _)]
  have HB : Hid (Below w.heap.size w wa) := ((Below.refl _ _).alloc (Nat.le_refl _) _).trans (b1.mono (by omega))
  have hsz : w.heap.size + 1 ≤ wa.heap.size := by have := b1.size; rwa [size_alloc] at this
  have HC : Hid (CsAt wa pc bs bg g (H * W) (newR W H)) := C1
  have Hlt : Hid (pc < wa.heap.size ∧ bs < wa.heap.size ∧ bg < wa.heap.size ∧ g < wa.heap.size) := by obtain ⟨t, P, _⟩ := C1.pr; exact ⟨C1.lt, P.lt, P.gr.lt, P.gr.glt⟩
  clear C1 b1
  go_wp2_with fail
  go_at_call 19
  refine (refNewYes W H _ w1 w2 h1 h2).mono ?_
  rintro e wb ⟨rs, rc, rg, cap, rfl, r1, r2, r3, R1, b2⟩
  replace HC : Hid (CsAt wb pc bs bg g (H * W) (newR W H)) := HC.out.below b2
  have HR : Hid (RefAt wb rs rc rg cap (H * W) (newR W H)) := R1
  replace HB : Hid (Below w.heap.size w wb) := HB.out.trans (b2.mono (by omega))
  replace c0 : wb.cell? ⟨w.heap.size, 0, none⟩ = some (.pointer none) := by rw [b2.cells (by omega)]; exact c0
  replace c1 : wb.cell? ⟨w.heap.size, 1, none⟩ = some (.pointer none) := by rw [b2.cells (by omega)]; exact c1
  replace fz : ∀ o, wb.frozen? ⟨w.heap.size, o, none⟩ = false := fun o => by rw [b2.marks (by omega)]; exact fz o
  have hsb := b2.size
  have hlw : w.heap.size < wb.heap.size := by omega
  clear b2 R1
  go_wp2_with fail
  have K : Keep (fun i => i = w.heap.size) wb ((wb.setCell ⟨w.heap.size, 0, none⟩ (.pointer (some ⟨pc, 0, none⟩))).setCell ⟨w.heap.size, 1, none⟩ (.pointer (some ⟨rs, 0, none⟩))) := ((Keep.refl (fun i => i = w.heap.size) wb).setCell ⟨w.heap.size, 0, none⟩ _ (fun _ => rfl)).setCell ⟨w.heap.size, 1, none⟩ _ (fun _ => rfl)
  have hl := Hlt.out
  refine bodyPost_ret (v := .tuple #[.agg #[.pointer (some ⟨pc, 0, none⟩), .pointer (some ⟨rs, 0, none⟩)], .bool true]) (by simp [results, Tryd.results6, go_sem, c0, c1]) rfl ⟨⟨pc, bs, bg, g, H * W, rs, rc, rg, cap, H * W⟩, _, _, rfl, ⟨rfl, rfl, HC.out.keep K (by omega) (by omega) (by omega) (by omega), HR.out.keep K (by omega) (by omega) (by omega), bok_nil⟩, ⟨fun i hi => ?_, ?_⟩, HB.out.trans (K.toBelow (by omega) (fun i hi => by omega)), fun i hi => ?_⟩
  · show ¬ (i = rs ∨ i = rc ∨ i = rg)
    have hi' : i = pc ∨ i = bs ∨ i = bg ∨ i = g := hi
    omega
  · show 2 ≤ rs ∧ 2 ≤ rc ∧ 2 ≤ rg
    omega
  · have hi' : i = pc ∨ i = bs ∨ i = bg ∨ i = g ∨ i = rs ∨ i = rc ∨ i = rg := hi
    omega
/-- A pair of any size. -/
theorem lScreen (x y : Int) (w : World) (hw : 2 ≤ w.heap.size) :
    Calls Tryd.prog 6 #[.int .i64 x, .int .i64 y] w fun e w' => ∃ B px py, e = .returned (.tuple #[.agg #[.pointer px, .pointer py], .bool true]) ∧ PairIs w' B px py ∧ sepB B ∧ Below w.heap.size w w' ∧ (∀ i, allB B i → w.heap.size ≤ i) ∧ bszB B = 0 := by
  cases hs : sizeB x y with
  | false =>
    refine (lScreenNo x y w hs).mono ?_
    rintro e w' ⟨rfl, b⟩
    exact ⟨none, none, none, rfl, ⟨rfl, rfl⟩, trivial, b, fun i hi => False.elim hi, rfl⟩
  | true =>
    obtain ⟨a1, a2, a3, a4⟩ := sizeB_iff.1 hs
    obtain ⟨W, rfl⟩ := Int.eq_ofNat_of_zero_le (show 0 ≤ x by omega)
    obtain ⟨H, rfl⟩ := Int.eq_ofNat_of_zero_le (show 0 ≤ y by omega)
    refine (lScreenYes W H w (by omega) (by omega) (by omega) (by omega) hw).mono ?_
    rintro e w' ⟨k, px, py, rfl, P, S, b, u⟩
    exact ⟨some (k, newR W H), px, py, rfl, P, S, b, u, rfl⟩
end Go.Proofs.YtjlfibhbfdckpaaDoor
