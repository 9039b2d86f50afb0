/- Texts of the proof, one behind the other: ShC, ShD. -/
import Derived.Test.YtknhohbepkapdaaDoorK32
/- The statement with the document's answer: a pair is fed, way 0. -/
namespace Go.Proofs.YtknhohbepkapdaaDoor
open Go.RowKit
attribute [local go_sem ↓] Go.wp_at_zero Go.wp_at_succ
set_option maxRecDepth 10000 in
set_option maxHeartbeats 4000000 in
theorem lFeed00 (pc bs bg g N rs rc rg cap M : Nat) (s : Rs) (on sz : Int) (W H : Int) (lk : Int) (tx : ByteArray) (w : World) (C : CsAt w pc bs bg g N s) (R : RefAt w rs rc rg cap M s) (hB : BOk s.B) (T : Tabs w)
    (hsep : ∀ i, (i = pc ∨ i = bs ∨ i = bg ∨ i = g) → ¬ (i = rs ∨ i = rc ∨ i = rg)) (hr : 2 ≤ rs ∧ 2 ≤ rc ∧ 2 ≤ rg) (hz : (sz.tmod 2 == 0) = true) (hl : (lk.tmod 2 == 0) = true) (hb : s.B.size + tx.size ≤ 100000000000) :
    Calls Tryd.prog 8 #[.agg #[.pointer (some ⟨pc, 0, none⟩), .pointer (some ⟨rs, 0, none⟩)], feedAgg on sz W H lk tx] w (FPost pc bs bg g rs rc rg s tx w) := by
  have hz' : (sz.tmod 2 != 0) = !true := by simp only [bne, hz]
  have hl' : (lk.tmod 2 != 0) = !true := by simp only [bne, hl]
  have HsR : Hid (¬ (pc = rs ∨ pc = rc ∨ pc = rg) ∧ ¬ (bs = rs ∨ bs = rc ∨ bs = rg) ∧ ¬ (bg = rs ∨ bg = rc ∨ bg = rg) ∧ ¬ (g = rs ∨ g = rc ∨ g = rg)) := ⟨hsep pc (Or.inl rfl), hsep bs (Or.inr (Or.inl rfl)), hsep bg (Or.inr (Or.inr (Or.inl rfl))), hsep g (Or.inr (Or.inr (Or.inr rfl)))⟩
  have HsP : Hid (¬ (rs = bs ∨ rs = bg ∨ rs = g) ∧ ¬ (rc = bs ∨ rc = bg ∨ rc = g) ∧ ¬ (rg = bs ∨ rg = bg ∨ rg = g)) := ⟨fun h => hsep rs (Or.inr h) (Or.inl rfl), fun h => hsep rc (Or.inr h) (Or.inr (Or.inl rfl)), fun h => hsep rg (Or.inr h) (Or.inr (Or.inr rfl))⟩
  have Hlt : Hid ((pc < w.heap.size ∧ bs < w.heap.size ∧ bg < w.heap.size ∧ g < w.heap.size) ∧ (rs < w.heap.size ∧ rc < w.heap.size ∧ rg < w.heap.size) ∧ (2 ≤ bs ∧ 2 ≤ bg ∧ 2 ≤ g) ∧ (2 ≤ rs ∧ 2 ≤ rc ∧ 2 ≤ rg)) := by
    obtain ⟨t, P, _⟩ := C.pr
    exact ⟨⟨C.lt, P.lt, P.gr.lt, P.gr.glt⟩, ⟨R.lt, R.cels.lt, R.cels.glt⟩, ⟨C.l1, C.l2, C.l3⟩, hr⟩
  have HC : Hid (CsAt w pc bs bg g N s) := C
  have HR : Hid (RefAt w rs rc rg cap M s) := R
  have HB : Hid (BOk s.B) := hB
  have HT : Hid (Tabs w) := T
  have HOK : Hid s.Ok := C.ok
  clear C R hB T hsep hr
  go_enter Tryd.func8, Tryd.ntmps8
  go_wp2_with fail
  have hbl : Below w.heap.size w ((w.alloc (.cells #[.pointer (some ⟨pc, 0, none⟩), .pointer (some ⟨rs, 0, none⟩)] 26)).alloc (.cells #[.int .i64 on, .int .i64 sz, .int .i64 W, .int .i64 H, .int .i64 lk, .string tx] 32)) := ((Below.refl _ _).alloc (Nat.le_refl _) _).alloc (by simp) _
  have hs0 : ((w.alloc (.cells #[.pointer (some ⟨pc, 0, none⟩), .pointer (some ⟨rs, 0, none⟩)] 26)).alloc (.cells #[.int .i64 on, .int .i64 sz, .int .i64 W, .int .i64 H, .int .i64 lk, .string tx] 32)).heap.size = w.heap.size + 2 := by simp
  have HF : Hid (FdAt ((w.alloc (.cells #[.pointer (some ⟨pc, 0, none⟩), .pointer (some ⟨rs, 0, none⟩)] 26)).alloc (.cells #[.int .i64 on, .int .i64 sz, .int .i64 W, .int .i64 H, .int .i64 lk, .string tx] 32)) (w.heap.size + 1) on sz W H lk tx) := by
    show _ = _
    have := heap_new (w.alloc (.cells #[.pointer (some ⟨pc, 0, none⟩), .pointer (some ⟨rs, 0, none⟩)] 26)) (.cells #[.int .i64 on, .int .i64 sz, .int .i64 W, .int .i64 H, .int .i64 lk, .string tx] 32)
    rwa [size_alloc] at this
  have HPp : Hid (PpAt ((w.alloc (.cells #[.pointer (some ⟨pc, 0, none⟩), .pointer (some ⟨rs, 0, none⟩)] 26)).alloc (.cells #[.int .i64 on, .int .i64 sz, .int .i64 W, .int .i64 H, .int .i64 lk, .string tx] 32)) w.heap.size (some ⟨pc, 0, none⟩) (some ⟨rs, 0, none⟩)) := by
    show _ = _
    rw [Below.heap_alloc _ _ _ (by simp)]
    exact heap_new w _
  replace HC : Hid (CsAt ((w.alloc (.cells #[.pointer (some ⟨pc, 0, none⟩), .pointer (some ⟨rs, 0, none⟩)] 26)).alloc (.cells #[.int .i64 on, .int .i64 sz, .int .i64 W, .int .i64 H, .int .i64 lk, .string tx] 32)) pc bs bg g N s) := HC.out.below hbl
  replace HR : Hid (RefAt ((w.alloc (.cells #[.pointer (some ⟨pc, 0, none⟩), .pointer (some ⟨rs, 0, none⟩)] 26)).alloc (.cells #[.int .i64 on, .int .i64 sz, .int .i64 W, .int .i64 H, .int .i64 lk, .string tx] 32)) rs rc rg cap M s) := HR.out.below hbl
  replace HT : Hid (Tabs ((w.alloc (.cells #[.pointer (some ⟨pc, 0, none⟩), .pointer (some ⟨rs, 0, none⟩)] 26)).alloc (.cells #[.int .i64 on, .int .i64 sz, .int .i64 W, .int .i64 H, .int .i64 lk, .string tx] 32))) := HT.out.below hbl
  have HK : Hid (Keep (fun i => i = bs ∨ i = bg ∨ i = g ∨ i = rs ∨ i = rc ∨ i = rg) w ((w.alloc (.cells #[.pointer (some ⟨pc, 0, none⟩), .pointer (some ⟨rs, 0, none⟩)] 26)).alloc (.cells #[.int .i64 on, .int .i64 sz, .int .i64 W, .int .i64 H, .int .i64 lk, .string tx] 32))) := Keep.below _ hbl
  generalize (w.alloc (.cells #[.pointer (some ⟨pc, 0, none⟩), .pointer (some ⟨rs, 0, none⟩)] 26)).alloc (.cells #[.int .i64 on, .int .i64 sz, .int .i64 W, .int .i64 H, .int .i64 lk, .string tx] 32) = wa at *
  clear hbl
  have q0 := HPp.out.c0
  have q1 := HPp.out.c1
  have f4 := HF.out.c4
  have f5 := HF.out.c5
  go_wp2_with fail
  go_at_call 12
  refine (cFeedS pc bs bg g N s tx _ HC.out HT.out (by omega)).mono ?_
  rintro e wd ⟨rfl, C2, K2⟩
  clear HC
  have HC : Hid (CsAt wd pc bs bg g N (feedR s tx.data.toList)) := C2
  replace HR : Hid (RefAt wd rs rc rg cap M s) := HR.out.keep K2 HsP.out.1 HsP.out.2.1 HsP.out.2.2
  replace HT : Hid (Tabs wd) := HT.out.keep K2 (by have := Hlt.out; omega) (by have := Hlt.out; omega)
  replace HK : Hid (Keep (fun i => i = bs ∨ i = bg ∨ i = g ∨ i = rs ∨ i = rc ∨ i = rg) w wd) := HK.out.trans K2 (fun i _ h => keepP0 h)
  have zwd := K2.size
  replace HF : Hid (FdAt wd (w.heap.size + 1) on sz W H lk tx) := HF.out.keep K2 (by have := Hlt.out; omega)
  replace HPp : Hid (PpAt wd w.heap.size (some ⟨pc, 0, none⟩) (some ⟨rs, 0, none⟩)) := HPp.out.keep K2 (by have := Hlt.out; omega)
  clear C2 K2 q0 q1 f4 f5
  have q0 := HPp.out.c0
  have q1 := HPp.out.c1
  have f5 := HF.out.c5
  go_wp2_with fail
  go_at_call 21
  refine (refFeed rs rc rg cap M s tx _ HR.out HOK.out HB.out (hb)).mono ?_
  rintro e we ⟨rg2, cap2, M2, rfl, R2, K2, hr2⟩
  clear HR
  have HR : Hid (RefAt we rs rc rg2 cap2 M2 (feedR s tx.data.toList)) := R2
  replace HC : Hid (CsAt we pc bs bg g N (feedR s tx.data.toList)) := HC.out.keep K2 HsR.out.1 HsR.out.2.1 HsR.out.2.2.1 HsR.out.2.2.2
  replace HT : Hid (Tabs we) := HT.out.keep K2 (by have := Hlt.out; omega) (by have := Hlt.out; omega)
  replace HK : Hid (Keep (fun i => i = bs ∨ i = bg ∨ i = g ∨ i = rs ∨ i = rc ∨ i = rg) w we) := HK.out.trans K2 (fun i _ h => keepR0 h)
  have zwe := K2.size
  replace HF : Hid (FdAt we (w.heap.size + 1) on sz W H lk tx) := HF.out.keep K2 (by have := Hlt.out; omega)
  replace HPp : Hid (PpAt we w.heap.size (some ⟨pc, 0, none⟩) (some ⟨rs, 0, none⟩)) := HPp.out.keep K2 (by have := Hlt.out; omega)
  have hr2' : rg2 = rg ∨ w.heap.size ≤ rg2 := by omega
  have hne2 : g ≠ rg2 := neG2 (fun e => HsR.out.2.2.2 (Or.inr (Or.inr e))) (show rg2 = rg ∨ wd.heap.size ≤ rg2 from hr2) (by have := Hlt.out; omega)
  have Hsz : Hid ((feedR s tx.data.toList).B.size ≤ s.B.size + tx.size ∧ BOk (feedR s tx.data.toList).B) := by
    have q := feed_size tx.data.toList HB.out
    refine ⟨?_, q.2⟩
    have a := q.1
    exact a
  clear R2 K2 q0 q1 f5
  have f4 := HF.out.c4
  have q0 := HPp.out.c0
  have q1 := HPp.out.c1
  go_wp2_with fail
  go_ret
  exact ⟨g, N, rg2, cap2, M2, feedR s tx.data.toList, rfl, HC.out, HR.out, Hsz.out.2, HK.out, by omega, hr2', hne2, Hsz.out.1⟩
set_option maxRecDepth 10000 in
set_option maxHeartbeats 4000000 in
theorem lFeed01 (pc bs bg g N rs rc rg cap M : Nat) (s : Rs) (on sz : Int) (W H : Int) (lk : Int) (tx : ByteArray) (w : World) (C : CsAt w pc bs bg g N s) (R : RefAt w rs rc rg cap M s) (hB : BOk s.B) (T : Tabs w)
    (hsep : ∀ i, (i = pc ∨ i = bs ∨ i = bg ∨ i = g) → ¬ (i = rs ∨ i = rc ∨ i = rg)) (hr : 2 ≤ rs ∧ 2 ≤ rc ∧ 2 ≤ rg) (hz : (sz.tmod 2 == 0) = true) (hl : (lk.tmod 2 == 0) = false) (hb : s.B.size + tx.size ≤ 100000000000) :
    Calls Tryd.prog 8 #[.agg #[.pointer (some ⟨pc, 0, none⟩), .pointer (some ⟨rs, 0, none⟩)], feedAgg on sz W H lk tx] w (FPost pc bs bg g rs rc rg s tx w) := by
  have hz' : (sz.tmod 2 != 0) = !true := by simp only [bne, hz]
  have hl' : (lk.tmod 2 != 0) = !false := by simp only [bne, hl]
  have HsR : Hid (¬ (pc = rs ∨ pc = rc ∨ pc = rg) ∧ ¬ (bs = rs ∨ bs = rc ∨ bs = rg) ∧ ¬ (bg = rs ∨ bg = rc ∨ bg = rg) ∧ ¬ (g = rs ∨ g = rc ∨ g = rg)) := ⟨hsep pc (Or.inl rfl), hsep bs (Or.inr (Or.inl rfl)), hsep bg (Or.inr (Or.inr (Or.inl rfl))), hsep g (Or.inr (Or.inr (Or.inr rfl)))⟩
  have HsP : Hid (¬ (rs = bs ∨ rs = bg ∨ rs = g) ∧ ¬ (rc = bs ∨ rc = bg ∨ rc = g) ∧ ¬ (rg = bs ∨ rg = bg ∨ rg = g)) := ⟨fun h => hsep rs (Or.inr h) (Or.inl rfl), fun h => hsep rc (Or.inr h) (Or.inr (Or.inl rfl)), fun h => hsep rg (Or.inr h) (Or.inr (Or.inr rfl))⟩
  have Hlt : Hid ((pc < w.heap.size ∧ bs < w.heap.size ∧ bg < w.heap.size ∧ g < w.heap.size) ∧ (rs < w.heap.size ∧ rc < w.heap.size ∧ rg < w.heap.size) ∧ (2 ≤ bs ∧ 2 ≤ bg ∧ 2 ≤ g) ∧ (2 ≤ rs ∧ 2 ≤ rc ∧ 2 ≤ rg)) := by
    obtain ⟨t, P, _⟩ := C.pr
    exact ⟨⟨C.lt, P.lt, P.gr.lt, P.gr.glt⟩, ⟨R.lt, R.cels.lt, R.cels.glt⟩, ⟨C.l1, C.l2, C.l3⟩, hr⟩
  have HC : Hid (CsAt w pc bs bg g N s) := C
  have HR : Hid (RefAt w rs rc rg cap M s) := R
  have HB : Hid (BOk s.B) := hB
  have HT : Hid (Tabs w) := T
  have HOK : Hid s.Ok := C.ok
  clear C R hB T hsep hr
  go_enter Tryd.func8, Tryd.ntmps8
  go_wp2_with fail
  have hbl : Below w.heap.size w ((w.alloc (.cells #[.pointer (some ⟨pc, 0, none⟩), .pointer (some ⟨rs, 0, none⟩)] 26)).alloc (.cells #[.int .i64 on, .int .i64 sz, .int .i64 W, .int .i64 H, .int .i64 lk, .string tx] 32)) := ((Below.refl _ _).alloc (Nat.le_refl _) _).alloc (by simp) _
  have hs0 : ((w.alloc (.cells #[.pointer (some ⟨pc, 0, none⟩), .pointer (some ⟨rs, 0, none⟩)] 26)).alloc (.cells #[.int .i64 on, .int .i64 sz, .int .i64 W, .int .i64 H, .int .i64 lk, .string tx] 32)).heap.size = w.heap.size + 2 := by simp
  have HF : Hid (FdAt ((w.alloc (.cells #[.pointer (some ⟨pc, 0, none⟩), .pointer (some ⟨rs, 0, none⟩)] 26)).alloc (.cells #[.int .i64 on, .int .i64 sz, .int .i64 W, .int .i64 H, .int .i64 lk, .string tx] 32)) (w.heap.size + 1) on sz W H lk tx) := by
    show _ = _
    have := heap_new (w.alloc (.cells #[.pointer (some ⟨pc, 0, none⟩), .pointer (some ⟨rs, 0, none⟩)] 26)) (.cells #[.int .i64 on, .int .i64 sz, .int .i64 W, .int .i64 H, .int .i64 lk, .string tx] 32)
    rwa [size_alloc] at this
  have HPp : Hid (PpAt ((w.alloc (.cells #[.pointer (some ⟨pc, 0, none⟩), .pointer (some ⟨rs, 0, none⟩)] 26)).alloc (.cells #[.int .i64 on, .int .i64 sz, .int .i64 W, .int .i64 H, .int .i64 lk, .string tx] 32)) w.heap.size (some ⟨pc, 0, none⟩) (some ⟨rs, 0, none⟩)) := by
    show _ = _
    rw [Below.heap_alloc _ _ _ (by simp)]
    exact heap_new w _
  replace HC : Hid (CsAt ((w.alloc (.cells #[.pointer (some ⟨pc, 0, none⟩), .pointer (some ⟨rs, 0, none⟩)] 26)).alloc (.cells #[.int .i64 on, .int .i64 sz, .int .i64 W, .int .i64 H, .int .i64 lk, .string tx] 32)) pc bs bg g N s) := HC.out.below hbl
  replace HR : Hid (RefAt ((w.alloc (.cells #[.pointer (some ⟨pc, 0, none⟩), .pointer (some ⟨rs, 0, none⟩)] 26)).alloc (.cells #[.int .i64 on, .int .i64 sz, .int .i64 W, .int .i64 H, .int .i64 lk, .string tx] 32)) rs rc rg cap M s) := HR.out.below hbl
  replace HT : Hid (Tabs ((w.alloc (.cells #[.pointer (some ⟨pc, 0, none⟩), .pointer (some ⟨rs, 0, none⟩)] 26)).alloc (.cells #[.int .i64 on, .int .i64 sz, .int .i64 W, .int .i64 H, .int .i64 lk, .string tx] 32))) := HT.out.below hbl
  have HK : Hid (Keep (fun i => i = bs ∨ i = bg ∨ i = g ∨ i = rs ∨ i = rc ∨ i = rg) w ((w.alloc (.cells #[.pointer (some ⟨pc, 0, none⟩), .pointer (some ⟨rs, 0, none⟩)] 26)).alloc (.cells #[.int .i64 on, .int .i64 sz, .int .i64 W, .int .i64 H, .int .i64 lk, .string tx] 32))) := Keep.below _ hbl
  generalize (w.alloc (.cells #[.pointer (some ⟨pc, 0, none⟩), .pointer (some ⟨rs, 0, none⟩)] 26)).alloc (.cells #[.int .i64 on, .int .i64 sz, .int .i64 W, .int .i64 H, .int .i64 lk, .string tx] 32) = wa at *
  clear hbl
  have q0 := HPp.out.c0
  have q1 := HPp.out.c1
  have f4 := HF.out.c4
  have f5 := HF.out.c5
  go_wp2_with fail
  go_at_call 12
  refine (cFeedS pc bs bg g N s tx _ HC.out HT.out (by omega)).mono ?_
  rintro e wd ⟨rfl, C2, K2⟩
  clear HC
  have HC : Hid (CsAt wd pc bs bg g N (feedR s tx.data.toList)) := C2
  replace HR : Hid (RefAt wd rs rc rg cap M s) := HR.out.keep K2 HsP.out.1 HsP.out.2.1 HsP.out.2.2
  replace HT : Hid (Tabs wd) := HT.out.keep K2 (by have := Hlt.out; omega) (by have := Hlt.out; omega)
  replace HK : Hid (Keep (fun i => i = bs ∨ i = bg ∨ i = g ∨ i = rs ∨ i = rc ∨ i = rg) w wd) := HK.out.trans K2 (fun i _ h => keepP0 h)
  have zwd := K2.size
  replace HF : Hid (FdAt wd (w.heap.size + 1) on sz W H lk tx) := HF.out.keep K2 (by have := Hlt.out; omega)
  replace HPp : Hid (PpAt wd w.heap.size (some ⟨pc, 0, none⟩) (some ⟨rs, 0, none⟩)) := HPp.out.keep K2 (by have := Hlt.out; omega)
  clear C2 K2 q0 q1 f4 f5
  have q0 := HPp.out.c0
  have q1 := HPp.out.c1
  have f5 := HF.out.c5
  go_wp2_with fail
  go_at_call 21
  refine (refFeed rs rc rg cap M s tx _ HR.out HOK.out HB.out (hb)).mono ?_
  rintro e we ⟨rg2, cap2, M2, rfl, R2, K2, hr2⟩
  clear HR
  have HR : Hid (RefAt we rs rc rg2 cap2 M2 (feedR s tx.data.toList)) := R2
  replace HC : Hid (CsAt we pc bs bg g N (feedR s tx.data.toList)) := HC.out.keep K2 HsR.out.1 HsR.out.2.1 HsR.out.2.2.1 HsR.out.2.2.2
  replace HT : Hid (Tabs we) := HT.out.keep K2 (by have := Hlt.out; omega) (by have := Hlt.out; omega)
  replace HK : Hid (Keep (fun i => i = bs ∨ i = bg ∨ i = g ∨ i = rs ∨ i = rc ∨ i = rg) w we) := HK.out.trans K2 (fun i _ h => keepR0 h)
  have zwe := K2.size
  replace HF : Hid (FdAt we (w.heap.size + 1) on sz W H lk tx) := HF.out.keep K2 (by have := Hlt.out; omega)
  replace HPp : Hid (PpAt we w.heap.size (some ⟨pc, 0, none⟩) (some ⟨rs, 0, none⟩)) := HPp.out.keep K2 (by have := Hlt.out; omega)
  have hr2' : rg2 = rg ∨ w.heap.size ≤ rg2 := by omega
  have hne2 : g ≠ rg2 := neG2 (fun e => HsR.out.2.2.2 (Or.inr (Or.inr e))) (show rg2 = rg ∨ wd.heap.size ≤ rg2 from hr2) (by have := Hlt.out; omega)
  have Hsz : Hid ((feedR s tx.data.toList).B.size ≤ s.B.size + tx.size ∧ BOk (feedR s tx.data.toList).B) := by
    have q := feed_size tx.data.toList HB.out
    refine ⟨?_, q.2⟩
    have a := q.1
    exact a
  clear R2 K2 q0 q1 f5
  have f4 := HF.out.c4
  have q0 := HPp.out.c0
  have q1 := HPp.out.c1
  go_wp2_with fail
  go_at_call 9
  refine (lLook (B := some (⟨pc, bs, bg, g, N, rs, rc, rg2, cap2, M2⟩, feedR s tx.data.toList)) ⟨rfl, rfl, HC.out, HR.out, Hsz.out.2⟩).mono ?_
  rintro e wf ⟨rfl, b6⟩
  replace HC : Hid (CsAt wf pc bs bg g N (feedR s tx.data.toList)) := HC.out.below b6
  replace HR : Hid (RefAt wf rs rc rg2 cap2 M2 (feedR s tx.data.toList)) := HR.out.below b6
  replace HK : Hid (Keep (fun i => i = bs ∨ i = bg ∨ i = g ∨ i = rs ∨ i = rc ∨ i = rg) w wf) := HK.out.thenBelow b6
  clear b6
  go_wp2_with fail
  go_ret
  exact ⟨g, N, rg2, cap2, M2, feedR s tx.data.toList, rfl, HC.out, HR.out, Hsz.out.2, HK.out, by omega, hr2', hne2, Hsz.out.1⟩
end Go.Proofs.YtknhohbepkapdaaDoor

/- The statement with the document's answer: a pair is fed, way n. -/
namespace Go.Proofs.YtknhohbepkapdaaDoor
open Go.RowKit
attribute [local go_sem ↓] Go.wp_at_zero Go.wp_at_succ
set_option maxRecDepth 10000 in
set_option maxHeartbeats 4000000 in
theorem lFeedn0 (pc bs bg g N rs rc rg cap M : Nat) (s : Rs) (on sz : Int) (W H : Int) (lk : Int) (tx : ByteArray) (w : World) (C : CsAt w pc bs bg g N s) (R : RefAt w rs rc rg cap M s) (hB : BOk s.B) (T : Tabs w)
    (hsep : ∀ i, (i = pc ∨ i = bs ∨ i = bg ∨ i = g) → ¬ (i = rs ∨ i = rc ∨ i = rg)) (hr : 2 ≤ rs ∧ 2 ≤ rc ∧ 2 ≤ rg) (hz : (sz.tmod 2 == 0) = false) (hs : sizeB W H = false) (hl : (lk.tmod 2 == 0) = true) (hb : s.B.size + tx.size ≤ 100000000000) :
    Calls Tryd.prog 8 #[.agg #[.pointer (some ⟨pc, 0, none⟩), .pointer (some ⟨rs, 0, none⟩)], feedAgg on sz W H lk tx] w (FPost pc bs bg g rs rc rg s tx w) := by
  have hz' : (sz.tmod 2 != 0) = !false := by simp only [bne, hz]
  have hl' : (lk.tmod 2 != 0) = !true := by simp only [bne, hl]
  have HsR : Hid (¬ (pc = rs ∨ pc = rc ∨ pc = rg) ∧ ¬ (bs = rs ∨ bs = rc ∨ bs = rg) ∧ ¬ (bg = rs ∨ bg = rc ∨ bg = rg) ∧ ¬ (g = rs ∨ g = rc ∨ g = rg)) := ⟨hsep pc (Or.inl rfl), hsep bs (Or.inr (Or.inl rfl)), hsep bg (Or.inr (Or.inr (Or.inl rfl))), hsep g (Or.inr (Or.inr (Or.inr rfl)))⟩
  have HsP : Hid (¬ (rs = bs ∨ rs = bg ∨ rs = g) ∧ ¬ (rc = bs ∨ rc = bg ∨ rc = g) ∧ ¬ (rg = bs ∨ rg = bg ∨ rg = g)) := ⟨fun h => hsep rs (Or.inr h) (Or.inl rfl), fun h => hsep rc (Or.inr h) (Or.inr (Or.inl rfl)), fun h => hsep rg (Or.inr h) (Or.inr (Or.inr rfl))⟩
  have Hlt : Hid ((pc < w.heap.size ∧ bs < w.heap.size ∧ bg < w.heap.size ∧ g < w.heap.size) ∧ (rs < w.heap.size ∧ rc < w.heap.size ∧ rg < w.heap.size) ∧ (2 ≤ bs ∧ 2 ≤ bg ∧ 2 ≤ g) ∧ (2 ≤ rs ∧ 2 ≤ rc ∧ 2 ≤ rg)) := by
    obtain ⟨t, P, _⟩ := C.pr
    exact ⟨⟨C.lt, P.lt, P.gr.lt, P.gr.glt⟩, ⟨R.lt, R.cels.lt, R.cels.glt⟩, ⟨C.l1, C.l2, C.l3⟩, hr⟩
  have HC : Hid (CsAt w pc bs bg g N s) := C
  have HR : Hid (RefAt w rs rc rg cap M s) := R
  have HB : Hid (BOk s.B) := hB
  have HT : Hid (Tabs w) := T
  have HOK : Hid s.Ok := C.ok
  clear C R hB T hsep hr
  go_enter Tryd.func8, Tryd.ntmps8
  go_wp2_with fail
  have hbl : Below w.heap.size w ((w.alloc (.cells #[.pointer (some ⟨pc, 0, none⟩), .pointer (some ⟨rs, 0, none⟩)] 26)).alloc (.cells #[.int .i64 on, .int .i64 sz, .int .i64 W, .int .i64 H, .int .i64 lk, .string tx] 32)) := ((Below.refl _ _).alloc (Nat.le_refl _) _).alloc (by simp) _
  have hs0 : ((w.alloc (.cells #[.pointer (some ⟨pc, 0, none⟩), .pointer (some ⟨rs, 0, none⟩)] 26)).alloc (.cells #[.int .i64 on, .int .i64 sz, .int .i64 W, .int .i64 H, .int .i64 lk, .string tx] 32)).heap.size = w.heap.size + 2 := by simp
  have HF : Hid (FdAt ((w.alloc (.cells #[.pointer (some ⟨pc, 0, none⟩), .pointer (some ⟨rs, 0, none⟩)] 26)).alloc (.cells #[.int .i64 on, .int .i64 sz, .int .i64 W, .int .i64 H, .int .i64 lk, .string tx] 32)) (w.heap.size + 1) on sz W H lk tx) := by
    show _ = _
    have := heap_new (w.alloc (.cells #[.pointer (some ⟨pc, 0, none⟩), .pointer (some ⟨rs, 0, none⟩)] 26)) (.cells #[.int .i64 on, .int .i64 sz, .int .i64 W, .int .i64 H, .int .i64 lk, .string tx] 32)
    rwa [size_alloc] at this
  have HPp : Hid (PpAt ((w.alloc (.cells #[.pointer (some ⟨pc, 0, none⟩), .pointer (some ⟨rs, 0, none⟩)] 26)).alloc (.cells #[.int .i64 on, .int .i64 sz, .int .i64 W, .int .i64 H, .int .i64 lk, .string tx] 32)) w.heap.size (some ⟨pc, 0, none⟩) (some ⟨rs, 0, none⟩)) := by
    show _ = _
    rw [Below.heap_alloc _ _ _ (by simp)]
    exact heap_new w _
  replace HC : Hid (CsAt ((w.alloc (.cells #[.pointer (some ⟨pc, 0, none⟩), .pointer (some ⟨rs, 0, none⟩)] 26)).alloc (.cells #[.int .i64 on, .int .i64 sz, .int .i64 W, .int .i64 H, .int .i64 lk, .string tx] 32)) pc bs bg g N s) := HC.out.below hbl
  replace HR : Hid (RefAt ((w.alloc (.cells #[.pointer (some ⟨pc, 0, none⟩), .pointer (some ⟨rs, 0, none⟩)] 26)).alloc (.cells #[.int .i64 on, .int .i64 sz, .int .i64 W, .int .i64 H, .int .i64 lk, .string tx] 32)) rs rc rg cap M s) := HR.out.below hbl
  replace HT : Hid (Tabs ((w.alloc (.cells #[.pointer (some ⟨pc, 0, none⟩), .pointer (some ⟨rs, 0, none⟩)] 26)).alloc (.cells #[.int .i64 on, .int .i64 sz, .int .i64 W, .int .i64 H, .int .i64 lk, .string tx] 32))) := HT.out.below hbl
  have HK : Hid (Keep (fun i => i = bs ∨ i = bg ∨ i = g ∨ i = rs ∨ i = rc ∨ i = rg) w ((w.alloc (.cells #[.pointer (some ⟨pc, 0, none⟩), .pointer (some ⟨rs, 0, none⟩)] 26)).alloc (.cells #[.int .i64 on, .int .i64 sz, .int .i64 W, .int .i64 H, .int .i64 lk, .string tx] 32))) := Keep.below _ hbl
  generalize (w.alloc (.cells #[.pointer (some ⟨pc, 0, none⟩), .pointer (some ⟨rs, 0, none⟩)] 26)).alloc (.cells #[.int .i64 on, .int .i64 sz, .int .i64 W, .int .i64 H, .int .i64 lk, .string tx] 32) = wa at *
  clear hbl
  go_at_call 15
  refine (cResizeNo pc bs bg g N s W H _ HC.out hs).mono ?_
  rintro e wb ⟨g1, N1, rfl, C1, K1, hg1⟩
  clear HC
  have HC : Hid (CsAt wb pc bs bg g1 N1 s) := C1
  replace HR : Hid (RefAt wb rs rc rg cap M s) := HR.out.keep K1 HsP.out.1 HsP.out.2.1 HsP.out.2.2
  replace HT : Hid (Tabs wb) := HT.out.keep K1 (by have := Hlt.out; omega) (by have := Hlt.out; omega)
  replace HK : Hid (Keep (fun i => i = bs ∨ i = bg ∨ i = g ∨ i = rs ∨ i = rc ∨ i = rg) w wb) := HK.out.trans K1 (fun i _ h => keepP0 h)
  have zwb := K1.size
  replace HF : Hid (FdAt wb (w.heap.size + 1) on sz W H lk tx) := HF.out.keep K1 (by have := Hlt.out; omega)
  replace HPp : Hid (PpAt wb w.heap.size (some ⟨pc, 0, none⟩) (some ⟨rs, 0, none⟩)) := HPp.out.keep K1 (by have := Hlt.out; omega)
  have lg1 : g1 < wb.heap.size := by obtain ⟨t, P, _⟩ := HC.out.pr; exact P.gr.glt
  have hg1' : g1 = g ∨ w.heap.size + 2 ≤ g1 := by omega
  clear C1 K1 hg1
  have q0 := HPp.out.c0
  have q1 := HPp.out.c1
  have f2 := HF.out.c2
  have f3 := HF.out.c3
  go_wp2_with fail
  go_at_call 20
  refine (refResizeNo rs rc rg cap M s W H _ HR.out hs).mono ?_
  rintro e wc ⟨rg1, cap1, M1, rfl, R1, K1, hr1⟩
  clear HR
  have HR : Hid (RefAt wc rs rc rg1 cap1 M1 s) := R1
  replace HC : Hid (CsAt wc pc bs bg g1 N1 s) := HC.out.keep K1 HsR.out.1 HsR.out.2.1 HsR.out.2.2.1 (sepF HsR.out.2.2.2 hg1' (by have := Hlt.out; omega) (by have := Hlt.out; omega) (by have := Hlt.out; omega))
  replace HT : Hid (Tabs wc) := HT.out.keep K1 (by have := Hlt.out; omega) (by have := Hlt.out; omega)
  replace HK : Hid (Keep (fun i => i = bs ∨ i = bg ∨ i = g ∨ i = rs ∨ i = rc ∨ i = rg) w wc) := HK.out.trans K1 (fun i _ h => keepR0 h)
  have zwc := K1.size
  replace HF : Hid (FdAt wc (w.heap.size + 1) on sz W H lk tx) := HF.out.keep K1 (by have := Hlt.out; omega)
  replace HPp : Hid (PpAt wc w.heap.size (some ⟨pc, 0, none⟩) (some ⟨rs, 0, none⟩)) := HPp.out.keep K1 (by have := Hlt.out; omega)
  have lr1 : rg1 < wc.heap.size := HR.out.cels.glt
  have hr1' : rg1 = rg ∨ w.heap.size + 2 ≤ rg1 := by omega
  have hne1 : g1 ≠ rg1 := neGR HsR.out.2.2.2 hg1' (show rg1 = rg ∨ wb.heap.size ≤ rg1 from hr1) lg1 (by have := Hlt.out; omega)
  have HsQ : Hid (¬ (rg1 = bs ∨ rg1 = bg ∨ rg1 = g1)) := sepQ HsP.out.2.2 hr1' (by have := Hlt.out; omega) (by have := Hlt.out; omega) hne1
  have HsS : Hid (¬ (g1 = rs ∨ g1 = rc ∨ g1 = rg1)) := sepS HsR.out.2.2.2 hg1' (by have := Hlt.out; omega) (by have := Hlt.out; omega) hne1
  clear R1 K1 hr1 q0 q1 f2 f3
  have q0 := HPp.out.c0
  have q1 := HPp.out.c1
  have f4 := HF.out.c4
  have f5 := HF.out.c5
  go_wp2_with fail
  go_at_call 12
  refine (cFeedS pc bs bg g1 N1 s tx _ HC.out HT.out (by omega)).mono ?_
  rintro e wd ⟨rfl, C2, K2⟩
  clear HC
  have HC : Hid (CsAt wd pc bs bg g1 N1 (feedR s tx.data.toList)) := C2
  replace HR : Hid (RefAt wd rs rc rg1 cap1 M1 s) := HR.out.keep K2 (sepG HsP.out.1 hg1' (by have := Hlt.out; omega)) (sepG HsP.out.2.1 hg1' (by have := Hlt.out; omega)) HsQ.out
  replace HT : Hid (Tabs wd) := HT.out.keep K2 (by have := Hlt.out; omega) (by have := Hlt.out; omega)
  replace HK : Hid (Keep (fun i => i = bs ∨ i = bg ∨ i = g ∨ i = rs ∨ i = rc ∨ i = rg) w wd) := HK.out.trans K2 (fun i hi h => keepP hi hg1' h)
  have zwd := K2.size
  replace HF : Hid (FdAt wd (w.heap.size + 1) on sz W H lk tx) := HF.out.keep K2 (by have := Hlt.out; omega)
  replace HPp : Hid (PpAt wd w.heap.size (some ⟨pc, 0, none⟩) (some ⟨rs, 0, none⟩)) := HPp.out.keep K2 (by have := Hlt.out; omega)
  clear C2 K2 q0 q1 f4 f5
  have q0 := HPp.out.c0
  have q1 := HPp.out.c1
  have f5 := HF.out.c5
  go_wp2_with fail
  go_at_call 21
  refine (refFeed rs rc rg1 cap1 M1 s tx _ HR.out HOK.out HB.out (hb)).mono ?_
  rintro e we ⟨rg2, cap2, M2, rfl, R2, K2, hr2⟩
  clear HR
  have HR : Hid (RefAt we rs rc rg2 cap2 M2 (feedR s tx.data.toList)) := R2
  replace HC : Hid (CsAt we pc bs bg g1 N1 (feedR s tx.data.toList)) := HC.out.keep K2 (sepG HsR.out.1 hr1' (by have := Hlt.out; omega)) (sepG HsR.out.2.1 hr1' (by have := Hlt.out; omega)) (sepG HsR.out.2.2.1 hr1' (by have := Hlt.out; omega)) HsS.out
  replace HT : Hid (Tabs we) := HT.out.keep K2 (by have := Hlt.out; omega) (by have := Hlt.out; omega)
  replace HK : Hid (Keep (fun i => i = bs ∨ i = bg ∨ i = g ∨ i = rs ∨ i = rc ∨ i = rg) w we) := HK.out.trans K2 (fun i hi h => keepR hi hr1' h)
  have zwe := K2.size
  replace HF : Hid (FdAt we (w.heap.size + 1) on sz W H lk tx) := HF.out.keep K2 (by have := Hlt.out; omega)
  replace HPp : Hid (PpAt we w.heap.size (some ⟨pc, 0, none⟩) (some ⟨rs, 0, none⟩)) := HPp.out.keep K2 (by have := Hlt.out; omega)
  have hr2' : rg2 = rg ∨ w.heap.size ≤ rg2 := by omega
  have hne2 : g1 ≠ rg2 := neG2 hne1 (show rg2 = rg1 ∨ wd.heap.size ≤ rg2 from hr2) (by omega)
  have Hsz : Hid ((feedR s tx.data.toList).B.size ≤ s.B.size + tx.size ∧ BOk (feedR s tx.data.toList).B) := by
    have q := feed_size tx.data.toList HB.out
    refine ⟨?_, q.2⟩
    have a := q.1
    exact a
  clear R2 K2 q0 q1 f5
  have f4 := HF.out.c4
  have q0 := HPp.out.c0
  have q1 := HPp.out.c1
  go_wp2_with fail
  go_ret
  exact ⟨g1, N1, rg2, cap2, M2, feedR s tx.data.toList, rfl, HC.out, HR.out, Hsz.out.2, HK.out, by omega, hr2', hne2, Hsz.out.1⟩
set_option maxRecDepth 10000 in
set_option maxHeartbeats 4000000 in
theorem lFeedn1 (pc bs bg g N rs rc rg cap M : Nat) (s : Rs) (on sz : Int) (W H : Int) (lk : Int) (tx : ByteArray) (w : World) (C : CsAt w pc bs bg g N s) (R : RefAt w rs rc rg cap M s) (hB : BOk s.B) (T : Tabs w)
    (hsep : ∀ i, (i = pc ∨ i = bs ∨ i = bg ∨ i = g) → ¬ (i = rs ∨ i = rc ∨ i = rg)) (hr : 2 ≤ rs ∧ 2 ≤ rc ∧ 2 ≤ rg) (hz : (sz.tmod 2 == 0) = false) (hs : sizeB W H = false) (hl : (lk.tmod 2 == 0) = false) (hb : s.B.size + tx.size ≤ 100000000000) :
    Calls Tryd.prog 8 #[.agg #[.pointer (some ⟨pc, 0, none⟩), .pointer (some ⟨rs, 0, none⟩)], feedAgg on sz W H lk tx] w (FPost pc bs bg g rs rc rg s tx w) := by
  have hz' : (sz.tmod 2 != 0) = !false := by simp only [bne, hz]
  have hl' : (lk.tmod 2 != 0) = !false := by simp only [bne, hl]
  have HsR : Hid (¬ (pc = rs ∨ pc = rc ∨ pc = rg) ∧ ¬ (bs = rs ∨ bs = rc ∨ bs = rg) ∧ ¬ (bg = rs ∨ bg = rc ∨ bg = rg) ∧ ¬ (g = rs ∨ g = rc ∨ g = rg)) := ⟨hsep pc (Or.inl rfl), hsep bs (Or.inr (Or.inl rfl)), hsep bg (Or.inr (Or.inr (Or.inl rfl))), hsep g (Or.inr (Or.inr (Or.inr rfl)))⟩
  have HsP : Hid (¬ (rs = bs ∨ rs = bg ∨ rs = g) ∧ ¬ (rc = bs ∨ rc = bg ∨ rc = g) ∧ ¬ (rg = bs ∨ rg = bg ∨ rg = g)) := ⟨fun h => hsep rs (Or.inr h) (Or.inl rfl), fun h => hsep rc (Or.inr h) (Or.inr (Or.inl rfl)), fun h => hsep rg (Or.inr h) (Or.inr (Or.inr rfl))⟩
  have Hlt : Hid ((pc < w.heap.size ∧ bs < w.heap.size ∧ bg < w.heap.size ∧ g < w.heap.size) ∧ (rs < w.heap.size ∧ rc < w.heap.size ∧ rg < w.heap.size) ∧ (2 ≤ bs ∧ 2 ≤ bg ∧ 2 ≤ g) ∧ (2 ≤ rs ∧ 2 ≤ rc ∧ 2 ≤ rg)) := by
    obtain ⟨t, P, _⟩ := C.pr
    exact ⟨⟨C.lt, P.lt, P.gr.lt, P.gr.glt⟩, ⟨R.lt, R.cels.lt, R.cels.glt⟩, ⟨C.l1, C.l2, C.l3⟩, hr⟩
  have HC : Hid (CsAt w pc bs bg g N s) := C
  have HR : Hid (RefAt w rs rc rg cap M s) := R
  have HB : Hid (BOk s.B) := hB
  have HT : Hid (Tabs w) := T
  have HOK : Hid s.Ok := C.ok
  clear C R hB T hsep hr
  go_enter Tryd.func8, Tryd.ntmps8
  go_wp2_with fail
  have hbl : Below w.heap.size w ((w.alloc (.cells #[.pointer (some ⟨pc, 0, none⟩), .pointer (some ⟨rs, 0, none⟩)] 26)).alloc (.cells #[.int .i64 on, .int .i64 sz, .int .i64 W, .int .i64 H, .int .i64 lk, .string tx] 32)) := ((Below.refl _ _).alloc (Nat.le_refl _) _).alloc (by simp) _
  have hs0 : ((w.alloc (.cells #[.pointer (some ⟨pc, 0, none⟩), .pointer (some ⟨rs, 0, none⟩)] 26)).alloc (.cells #[.int .i64 on, .int .i64 sz, .int .i64 W, .int .i64 H, .int .i64 lk, .string tx] 32)).heap.size = w.heap.size + 2 := by simp
  have HF : Hid (FdAt ((w.alloc (.cells #[.pointer (some ⟨pc, 0, none⟩), .pointer (some ⟨rs, 0, none⟩)] 26)).alloc (.cells #[.int .i64 on, .int .i64 sz, .int .i64 W, .int .i64 H, .int .i64 lk, .string tx] 32)) (w.heap.size + 1) on sz W H lk tx) := by
    show _ = _
    have := heap_new (w.alloc (.cells #[.pointer (some ⟨pc, 0, none⟩), .pointer (some ⟨rs, 0, none⟩)] 26)) (.cells #[.int .i64 on, .int .i64 sz, .int .i64 W, .int .i64 H, .int .i64 lk, .string tx] 32)
    rwa [size_alloc] at this
  have HPp : Hid (PpAt ((w.alloc (.cells #[.pointer (some ⟨pc, 0, none⟩), .pointer (some ⟨rs, 0, none⟩)] 26)).alloc (.cells #[.int .i64 on, .int .i64 sz, .int .i64 W, .int .i64 H, .int .i64 lk, .string tx] 32)) w.heap.size (some ⟨pc, 0, none⟩) (some ⟨rs, 0, none⟩)) := by
    show _ = _
    rw [Below.heap_alloc _ _ _ (by simp)]
    exact heap_new w _
  replace HC : Hid (CsAt ((w.alloc (.cells #[.pointer (some ⟨pc, 0, none⟩), .pointer (some ⟨rs, 0, none⟩)] 26)).alloc (.cells #[.int .i64 on, .int .i64 sz, .int .i64 W, .int .i64 H, .int .i64 lk, .string tx] 32)) pc bs bg g N s) := HC.out.below hbl
  replace HR : Hid (RefAt ((w.alloc (.cells #[.pointer (some ⟨pc, 0, none⟩), .pointer (some ⟨rs, 0, none⟩)] 26)).alloc (.cells #[.int .i64 on, .int .i64 sz, .int .i64 W, .int .i64 H, .int .i64 lk, .string tx] 32)) rs rc rg cap M s) := HR.out.below hbl
  replace HT : Hid (Tabs ((w.alloc (.cells #[.pointer (some ⟨pc, 0, none⟩), .pointer (some ⟨rs, 0, none⟩)] 26)).alloc (.cells #[.int .i64 on, .int .i64 sz, .int .i64 W, .int .i64 H, .int .i64 lk, .string tx] 32))) := HT.out.below hbl
  have HK : Hid (Keep (fun i => i = bs ∨ i = bg ∨ i = g ∨ i = rs ∨ i = rc ∨ i = rg) w ((w.alloc (.cells #[.pointer (some ⟨pc, 0, none⟩), .pointer (some ⟨rs, 0, none⟩)] 26)).alloc (.cells #[.int .i64 on, .int .i64 sz, .int .i64 W, .int .i64 H, .int .i64 lk, .string tx] 32))) := Keep.below _ hbl
  generalize (w.alloc (.cells #[.pointer (some ⟨pc, 0, none⟩), .pointer (some ⟨rs, 0, none⟩)] 26)).alloc (.cells #[.int .i64 on, .int .i64 sz, .int .i64 W, .int .i64 H, .int .i64 lk, .string tx] 32) = wa at *
  clear hbl
  go_at_call 15
  refine (cResizeNo pc bs bg g N s W H _ HC.out hs).mono ?_
  rintro e wb ⟨g1, N1, rfl, C1, K1, hg1⟩
  clear HC
  have HC : Hid (CsAt wb pc bs bg g1 N1 s) := C1
  replace HR : Hid (RefAt wb rs rc rg cap M s) := HR.out.keep K1 HsP.out.1 HsP.out.2.1 HsP.out.2.2
  replace HT : Hid (Tabs wb) := HT.out.keep K1 (by have := Hlt.out; omega) (by have := Hlt.out; omega)
  replace HK : Hid (Keep (fun i => i = bs ∨ i = bg ∨ i = g ∨ i = rs ∨ i = rc ∨ i = rg) w wb) := HK.out.trans K1 (fun i _ h => keepP0 h)
  have zwb := K1.size
  replace HF : Hid (FdAt wb (w.heap.size + 1) on sz W H lk tx) := HF.out.keep K1 (by have := Hlt.out; omega)
  replace HPp : Hid (PpAt wb w.heap.size (some ⟨pc, 0, none⟩) (some ⟨rs, 0, none⟩)) := HPp.out.keep K1 (by have := Hlt.out; omega)
  have lg1 : g1 < wb.heap.size := by obtain ⟨t, P, _⟩ := HC.out.pr; exact P.gr.glt
  have hg1' : g1 = g ∨ w.heap.size + 2 ≤ g1 := by omega
  clear C1 K1 hg1
  have q0 := HPp.out.c0
  have q1 := HPp.out.c1
  have f2 := HF.out.c2
  have f3 := HF.out.c3
  go_wp2_with fail
  go_at_call 20
  refine (refResizeNo rs rc rg cap M s W H _ HR.out hs).mono ?_
  rintro e wc ⟨rg1, cap1, M1, rfl, R1, K1, hr1⟩
  clear HR
  have HR : Hid (RefAt wc rs rc rg1 cap1 M1 s) := R1
  replace HC : Hid (CsAt wc pc bs bg g1 N1 s) := HC.out.keep K1 HsR.out.1 HsR.out.2.1 HsR.out.2.2.1 (sepF HsR.out.2.2.2 hg1' (by have := Hlt.out; omega) (by have := Hlt.out; omega) (by have := Hlt.out; omega))
  replace HT : Hid (Tabs wc) := HT.out.keep K1 (by have := Hlt.out; omega) (by have := Hlt.out; omega)
  replace HK : Hid (Keep (fun i => i = bs ∨ i = bg ∨ i = g ∨ i = rs ∨ i = rc ∨ i = rg) w wc) := HK.out.trans K1 (fun i _ h => keepR0 h)
  have zwc := K1.size
  replace HF : Hid (FdAt wc (w.heap.size + 1) on sz W H lk tx) := HF.out.keep K1 (by have := Hlt.out; omega)
  replace HPp : Hid (PpAt wc w.heap.size (some ⟨pc, 0, none⟩) (some ⟨rs, 0, none⟩)) := HPp.out.keep K1 (by have := Hlt.out; omega)
  have lr1 : rg1 < wc.heap.size := HR.out.cels.glt
  have hr1' : rg1 = rg ∨ w.heap.size + 2 ≤ rg1 := by omega
  have hne1 : g1 ≠ rg1 := neGR HsR.out.2.2.2 hg1' (show rg1 = rg ∨ wb.heap.size ≤ rg1 from hr1) lg1 (by have := Hlt.out; omega)
  have HsQ : Hid (¬ (rg1 = bs ∨ rg1 = bg ∨ rg1 = g1)) := sepQ HsP.out.2.2 hr1' (by have := Hlt.out; omega) (by have := Hlt.out; omega) hne1
  have HsS : Hid (¬ (g1 = rs ∨ g1 = rc ∨ g1 = rg1)) := sepS HsR.out.2.2.2 hg1' (by have := Hlt.out; omega) (by have := Hlt.out; omega) hne1
  clear R1 K1 hr1 q0 q1 f2 f3
  have q0 := HPp.out.c0
  have q1 := HPp.out.c1
  have f4 := HF.out.c4
  have f5 := HF.out.c5
  go_wp2_with fail
  go_at_call 12
  refine (cFeedS pc bs bg g1 N1 s tx _ HC.out HT.out (by omega)).mono ?_
  rintro e wd ⟨rfl, C2, K2⟩
  clear HC
  have HC : Hid (CsAt wd pc bs bg g1 N1 (feedR s tx.data.toList)) := C2
  replace HR : Hid (RefAt wd rs rc rg1 cap1 M1 s) := HR.out.keep K2 (sepG HsP.out.1 hg1' (by have := Hlt.out; omega)) (sepG HsP.out.2.1 hg1' (by have := Hlt.out; omega)) HsQ.out
  replace HT : Hid (Tabs wd) := HT.out.keep K2 (by have := Hlt.out; omega) (by have := Hlt.out; omega)
  replace HK : Hid (Keep (fun i => i = bs ∨ i = bg ∨ i = g ∨ i = rs ∨ i = rc ∨ i = rg) w wd) := HK.out.trans K2 (fun i hi h => keepP hi hg1' h)
  have zwd := K2.size
  replace HF : Hid (FdAt wd (w.heap.size + 1) on sz W H lk tx) := HF.out.keep K2 (by have := Hlt.out; omega)
  replace HPp : Hid (PpAt wd w.heap.size (some ⟨pc, 0, none⟩) (some ⟨rs, 0, none⟩)) := HPp.out.keep K2 (by have := Hlt.out; omega)
  clear C2 K2 q0 q1 f4 f5
  have q0 := HPp.out.c0
  have q1 := HPp.out.c1
  have f5 := HF.out.c5
  go_wp2_with fail
  go_at_call 21
  refine (refFeed rs rc rg1 cap1 M1 s tx _ HR.out HOK.out HB.out (hb)).mono ?_
  rintro e we ⟨rg2, cap2, M2, rfl, R2, K2, hr2⟩
  clear HR
  have HR : Hid (RefAt we rs rc rg2 cap2 M2 (feedR s tx.data.toList)) := R2
  replace HC : Hid (CsAt we pc bs bg g1 N1 (feedR s tx.data.toList)) := HC.out.keep K2 (sepG HsR.out.1 hr1' (by have := Hlt.out; omega)) (sepG HsR.out.2.1 hr1' (by have := Hlt.out; omega)) (sepG HsR.out.2.2.1 hr1' (by have := Hlt.out; omega)) HsS.out
  replace HT : Hid (Tabs we) := HT.out.keep K2 (by have := Hlt.out; omega) (by have := Hlt.out; omega)
  replace HK : Hid (Keep (fun i => i = bs ∨ i = bg ∨ i = g ∨ i = rs ∨ i = rc ∨ i = rg) w we) := HK.out.trans K2 (fun i hi h => keepR hi hr1' h)
  have zwe := K2.size
  replace HF : Hid (FdAt we (w.heap.size + 1) on sz W H lk tx) := HF.out.keep K2 (by have := Hlt.out; omega)
  replace HPp : Hid (PpAt we w.heap.size (some ⟨pc, 0, none⟩) (some ⟨rs, 0, none⟩)) := HPp.out.keep K2 (by have := Hlt.out; omega)
  have hr2' : rg2 = rg ∨ w.heap.size ≤ rg2 := by omega
  have hne2 : g1 ≠ rg2 := neG2 hne1 (show rg2 = rg1 ∨ wd.heap.size ≤ rg2 from hr2) (by omega)
  have Hsz : Hid ((feedR s tx.data.toList).B.size ≤ s.B.size + tx.size ∧ BOk (feedR s tx.data.toList).B) := by
    have q := feed_size tx.data.toList HB.out
    refine ⟨?_, q.2⟩
    have a := q.1
    exact a
  clear R2 K2 q0 q1 f5
  have f4 := HF.out.c4
  have q0 := HPp.out.c0
  have q1 := HPp.out.c1
  go_wp2_with fail
  go_at_call 9
  refine (lLook (B := some (⟨pc, bs, bg, g1, N1, rs, rc, rg2, cap2, M2⟩, feedR s tx.data.toList)) ⟨rfl, rfl, HC.out, HR.out, Hsz.out.2⟩).mono ?_
  rintro e wf ⟨rfl, b6⟩
  replace HC : Hid (CsAt wf pc bs bg g1 N1 (feedR s tx.data.toList)) := HC.out.below b6
  replace HR : Hid (RefAt wf rs rc rg2 cap2 M2 (feedR s tx.data.toList)) := HR.out.below b6
  replace HK : Hid (Keep (fun i => i = bs ∨ i = bg ∨ i = g ∨ i = rs ∨ i = rc ∨ i = rg) w wf) := HK.out.thenBelow b6
  clear b6
  go_wp2_with fail
  go_ret
  exact ⟨g1, N1, rg2, cap2, M2, feedR s tx.data.toList, rfl, HC.out, HR.out, Hsz.out.2, HK.out, by omega, hr2', hne2, Hsz.out.1⟩
end Go.Proofs.YtknhohbepkapdaaDoor
