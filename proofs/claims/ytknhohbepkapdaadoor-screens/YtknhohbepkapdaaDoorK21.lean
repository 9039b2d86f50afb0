/- Texts of the proof, one behind the other: PuQ, PuR, PuO, PuS. -/
import Derived.Test.YtknhohbepkapdaaDoorK20
/- The program's calls: NewScreen, Feed, Resize, Cell. -/
namespace Go.Proofs.YtknhohbepkapdaaDoor
open Go.RowKit
attribute [local go_sem ↓] Go.wp_at_zero Go.wp_at_succ
/-- The program's screen, as its calls have it: a block with a pointer to the inner one; no block is one of the tables'. -/
structure CsAt (w : World) (pc bs bg g N : Nat) (s : Rs) : Prop where
  blk : w.heap[pc]? = some (.cells #[.pointer (some ⟨bs, 0, none⟩)] 61)
  pr : ∃ t, PrAt w bs bg g N s t ∧ Tie s.B t
  ok : s.Ok
  ne1 : pc ≠ bs
  ne2 : pc ≠ bg
  ne3 : pc ≠ g
  l1 : 2 ≤ bs
  l2 : 2 ≤ bg
  l3 : 2 ≤ g
section
variable {w w' : World} {pc bs bg g N : Nat} {s : Rs}
theorem CsAt.lt (h : CsAt w pc bs bg g N s) : pc < w.heap.size := (Array.getElem?_eq_some_iff.1 h.blk).1
theorem CsAt.c0 (h : CsAt w pc bs bg g N s) : w.cell? ⟨pc, 0, none⟩ = some (.pointer (some ⟨bs, 0, none⟩)) := cell_of_block h.blk 0
theorem CsAt.same (h : CsAt w pc bs bg g N s) (h0 : w'.heap[pc]? = w.heap[pc]?) (h1 : w'.heap[bs]? = w.heap[bs]?) (h2 : w'.heap[bg]? = w.heap[bg]?) (h3 : w'.heap[g]? = w.heap[g]?) : CsAt w' pc bs bg g N s := by
  obtain ⟨t, P, T⟩ := h.pr
  exact ⟨by rw [h0]; exact h.blk, ⟨t, P.same h1 h2 h3, T⟩, h.ok, h.ne1, h.ne2, h.ne3, h.l1, h.l2, h.l3⟩
theorem CsAt.keep {F : Nat → Prop} (h : CsAt w pc bs bg g N s) (k : Keep F w w') (h0 : ¬ F pc) (h1 : ¬ F bs) (h2 : ¬ F bg) (h3 : ¬ F g) : CsAt w' pc bs bg g N s := by
  obtain ⟨t, P, T⟩ := h.pr
  exact h.same (k.block _ h.lt h0) (k.block _ P.lt h1) (k.block _ P.gr.lt h2) (k.block _ P.gr.glt h3)
theorem CsAt.below (h : CsAt w pc bs bg g N s) (hb : Below w.heap.size w w') : CsAt w' pc bs bg g N s :=
  h.keep (Keep.below (fun _ => False) hb) id id id id
end
def CPost (pc bs bg g : Nat) (w : World) (s : Rs) (r : Value) (e : Ending) (w' : World) : Prop :=
  ∃ g' N', e = .returned r ∧ CsAt w' pc bs bg g' N' s ∧ Keep (fun i => i = bs ∨ i = bg ∨ i = g) w w' ∧ (g' = g ∨ w.heap.size ≤ g')
theorem cNone (pc bs bg g N : Nat) (s : Rs) (w : World) (h : CsAt w pc bs bg g N s) :
    Calls Tryd.prog 25 #[.pointer (some ⟨pc, 0, none⟩)] w fun e w' => e = .returned (.bool false) ∧ w' = w := by
  have c := h.c0
  clear h
  go_enter Tryd.func25, Tryd.ntmps25
  go_wp2
  go_ret
  exact ⟨rfl, rfl⟩
theorem cNoneNil (w : World) :
    Calls Tryd.prog 25 #[.pointer none] w fun e w' => e = .returned (.bool true) ∧ w' = w := by
  go_enter Tryd.func25, Tryd.ntmps25
  go_wp2
  go_ret
  exact ⟨rfl, rfl⟩
set_option maxHeartbeats 1000000 in
theorem cNewNo (x y : Int) (w : World) (hs : sizeB x y = false) :
    Calls Tryd.prog 18 #[.int .i64 x, .int .i64 y] w fun e w' => e = .returned (.tuple #[.pointer none, .int .i64 3]) ∧ w' = w := by
  go_enter Tryd.func18, Tryd.ntmps18
  go_wp2_with (first | (go_at_call 28; refine (pMayBe _ _ _).mono ?_; rintro e w' ⟨rfl, hw'⟩; replace hw' := hw'.symm; subst hw'))
  go_ret2
  exact ⟨rfl, rfl⟩
set_option maxHeartbeats 1000000 in
theorem cNewYes (W H : Nat) (w : World) (w1 : 1 ≤ W) (w2 : W ≤ 40) (h1 : 1 ≤ H) (h2 : H ≤ 20) (hw : 2 ≤ w.heap.size) :
    Calls Tryd.prog 18 #[.int .i64 W, .int .i64 H] w fun e w' => ∃ pc bs bg g, e = .returned (.tuple #[.pointer (some ⟨pc, 0, none⟩), .int .i64 0]) ∧ CsAt w' pc bs bg g (H * W) (newR W H) ∧ Below w.heap.size w w' ∧ w.heap.size ≤ pc ∧ w.heap.size ≤ bs ∧ w.heap.size ≤ bg ∧ w.heap.size ≤ g := by
  have hs : sizeB W H = true := sizeB_iff.2 (by omega)
  go_enter Tryd.func18, Tryd.ntmps18
  go_wp2_with (first | (go_at_call 28; refine (pMayBe _ _ _).mono ?_; rintro e w' ⟨rfl, hw'⟩; replace hw' := hw'.symm; subst hw'))
  go_at_call 31
  refine (sNew W H _ w1 w2 h1 h2).mono ?_
  rintro e wa ⟨bs, bg, g, rfl, P1, b1, l1, l2, l3⟩
  have HP1 : Hid (PrAt wa bs bg g (H * W) (newR W H) newT) := P1
  have HB1 : Hid (Below w.heap.size w wa) := b1
  clear P1 b1
  go_wp2_with fail
  go_ret2
  have p := HP1.out
  have hbl : Below wa.heap.size wa (wa.alloc (.cells #[.pointer (some ⟨bs, 0, none⟩)] 61)) := (Below.refl _ _).alloc (Nat.le_refl _) _
  have q1 := p.lt
  have q2 := p.gr.lt
  have q3 := p.gr.glt
  exact ⟨wa.heap.size, bs, bg, g, rfl, ⟨heap_new wa _, ⟨newT, p.below hbl, tie0 rfl rfl⟩, newR_ok w1 w2 h1 h2, by omega, by omega, by omega, by omega, by omega, by omega⟩, HB1.out.trans (hbl.mono HB1.out.size), HB1.out.size, l1, l2, l3⟩
theorem cFeedNil (b : ByteArray) (w : World) :
    Calls Tryd.prog 12 #[.pointer none, .string b] w fun e w' => e = .returned (.tuple #[]) ∧ w' = w := by
  go_enter Tryd.func12, Tryd.ntmps12
  go_wp2_with (first | (go_at_call 25; refine (cNoneNil _).mono ?_; rintro e w' ⟨rfl, hw'⟩; replace hw' := hw'.symm; subst hw'))
  go_end0
  exact ⟨rfl, rfl⟩
theorem feed_ok (l : List UInt8) : ∀ {s : Rs}, s.Ok → (feedR s l).Ok := by
  induction l with
  | nil => intro s h; exact h
  | cons c r ih => intro s h; exact ih (h.one c)
set_option maxHeartbeats 1000000 in
theorem cFeed (pc bs bg g N : Nat) (s : Rs) (b : ByteArray) (w : World) (h : CsAt w pc bs bg g N s) (T : Tabs w) (hb : b.size ≤ 9223372036854775807) :
    Calls Tryd.prog 12 #[.pointer (some ⟨pc, 0, none⟩), .string b] w (CPost pc bs bg g w (feedR s b.data.toList) (.tuple #[])) := by
  have HC : Hid (CsAt w pc bs bg g N s) := h
  have HT : Hid (Tabs w) := T
  have c0 := h.c0
  clear h T
  go_enter Tryd.func12, Tryd.ntmps12
  go_wp2_with (first | (go_at_call 25; refine (cNone pc bs bg g N s _ HC.out).mono ?_; rintro e w' ⟨rfl, hw'⟩; replace hw' := hw'.symm; subst hw'))
  go_at_call 26
  obtain ⟨t, P, tie⟩ := HC.out.pr
  have l1 := HC.out.l1
  have l2 := HC.out.l2
  have l3 := HC.out.l3
  refine (sFeed bs bg g N s t b _ P HC.out.ok HT.out tie (by omega) (by omega) (by omega) (by omega) (by omega) (by omega) hb).mono ?_
  rintro e wa ⟨rfl, P1, K1⟩
  have HP1 : Hid (∃ t, PrAt wa bs bg g N (feedR s b.data.toList) t ∧ Tie (feedR s b.data.toList).B t) := P1
  clear P tie P1
  go_wp2_with fail
  go_end0
  have q := HC.out
  exact ⟨g, N, rfl, ⟨by rw [K1.block _ q.lt (fun h => by have := q.ne1; have := q.ne2; have := q.ne3; omega)]; exact q.blk, HP1.out, feed_ok _ q.ok, q.ne1, q.ne2, q.ne3, l1, l2, l3⟩, K1, Or.inl rfl⟩
theorem cResizeNil (x y : Int) (w : World) :
    Calls Tryd.prog 15 #[.pointer none, .int .i64 x, .int .i64 y] w fun e w' => e = .returned (.int .i64 1) ∧ w' = w := by
  go_enter Tryd.func15, Tryd.ntmps15
  go_wp2_with (first | (go_at_call 25; refine (cNoneNil _).mono ?_; rintro e w' ⟨rfl, hw'⟩; replace hw' := hw'.symm; subst hw'))
  go_ret
  exact ⟨rfl, rfl⟩
theorem cResizeNo (pc bs bg g N : Nat) (s : Rs) (x y : Int) (w : World) (h : CsAt w pc bs bg g N s) (hs : sizeB x y = false) :
    Calls Tryd.prog 15 #[.pointer (some ⟨pc, 0, none⟩), .int .i64 x, .int .i64 y] w (CPost pc bs bg g w s (.int .i64 3)) := by
  have HC : Hid (CsAt w pc bs bg g N s) := h
  clear h
  go_enter Tryd.func15, Tryd.ntmps15
  go_wp2_with (first | (go_at_call 25; refine (cNone pc bs bg g N s _ HC.out).mono ?_; rintro e w' ⟨rfl, hw'⟩; replace hw' := hw'.symm; subst hw') | (go_at_call 28; refine (pMayBe _ _ _).mono ?_; rintro e w' ⟨rfl, hw'⟩; replace hw' := hw'.symm; subst hw'))
  go_ret
  exact ⟨g, N, rfl, HC.out, Keep.refl _ _, Or.inl rfl⟩
set_option maxHeartbeats 1000000 in
theorem cResizeYes (pc bs bg g N : Nat) (s : Rs) (W H : Nat) (w : World) (h : CsAt w pc bs bg g N s) (w1 : 1 ≤ W) (w2 : W ≤ 40) (h1 : 1 ≤ H) (h2 : H ≤ 20) :
    Calls Tryd.prog 15 #[.pointer (some ⟨pc, 0, none⟩), .int .i64 W, .int .i64 H] w (CPost pc bs bg g w (resizeR s W H) (.int .i64 0)) := by
  have hs : sizeB W H = true := sizeB_iff.2 (by omega)
  have HC : Hid (CsAt w pc bs bg g N s) := h
  have c0 := h.c0
  clear h
  go_enter Tryd.func15, Tryd.ntmps15
  go_wp2_with (first | (go_at_call 25; refine (cNone pc bs bg g N s _ HC.out).mono ?_; rintro e w' ⟨rfl, hw'⟩; replace hw' := hw'.symm; subst hw') | (go_at_call 28; refine (pMayBe _ _ _).mono ?_; rintro e w' ⟨rfl, hw'⟩; replace hw' := hw'.symm; subst hw'))
  go_at_call 29
  obtain ⟨t, P, tie⟩ := HC.out.pr
  have hlt := HC.out.lt
  have l3 := HC.out.l3
  refine (sResize bs bg g N s t W H _ P HC.out.ok w1 w2 h1 h2).mono ?_
  rintro e wa ⟨g1, N1, rfl, P1, K1, hg⟩
  have HP1 : Hid (∃ t, PrAt wa bs bg g1 N1 (resizeR s W H) t ∧ Tie (resizeR s W H).B t) := ⟨t, P1, tie⟩
  clear P tie P1
  go_wp2_with fail
  go_ret
  have q := HC.out
  have := q.ne1
  have := q.ne2
  have := q.ne3
  have hsz := K1.size
  have hp : 2 ≤ w.heap.size := by have := q.l1; obtain ⟨t, P, _⟩ := q.pr; have := P.lt; omega
  exact ⟨g1, N1, rfl, ⟨by rw [K1.block _ q.lt (fun h => by omega)]; exact q.blk, HP1.out, resizeR_ok q.ok w1 w2 h1 h2, q.ne1, q.ne2, by omega, q.l1, q.l2, by omega⟩, K1, hg⟩
end Go.Proofs.YtknhohbepkapdaaDoor

/- The program's calls: Cell. -/
namespace Go.Proofs.YtknhohbepkapdaaDoor
open Go.RowKit
attribute [local go_sem ↓] Go.wp_at_zero Go.wp_at_succ
theorem cCellNil (x y : Int) (w : World) :
    Calls Tryd.prog 23 #[.pointer none, .int .i64 x, .int .i64 y] w fun e w' => e = .returned (.tuple #[noCel.agg, .int .i64 1]) ∧ Below w.heap.size w w' := by
  go_enter Tryd.func23, Tryd.ntmps23
  go_wp2_with (first | (go_at_call 25; refine (cNoneNil _).mono ?_; rintro e w' ⟨rfl, hw'⟩; replace hw' := hw'.symm; subst hw'))
  exact bodyPost_ret (v := .tuple #[noCel.agg, .int .i64 1]) (by simp [results, Tryd.results23, go_sem, noCel, Pn.plain]) rfl ⟨rfl, (Below.refl _ _).alloc (Nat.le_refl _) _⟩
set_option maxHeartbeats 1000000 in
theorem cCellNo (pc bs bg g N : Nat) (s : Rs) (x y : Int) (w : World) (h : CsAt w pc bs bg g N s) (hin : inG s.W s.H x y = false) :
    Calls Tryd.prog 23 #[.pointer (some ⟨pc, 0, none⟩), .int .i64 x, .int .i64 y] w fun e w' => e = .returned (.tuple #[noCel.agg, .int .i64 4]) ∧ Below w.heap.size w w' := by
  have hbl : Below w.heap.size w (w.alloc (.cells #[.int .i32 0, .int .i64 0, .int .i64 0, .int .i64 0, .bool false, .bool false, .bool false] 56)) := (Below.refl _ _).alloc (Nat.le_refl _) _
  have HC : Hid (CsAt (w.alloc (.cells #[.int .i32 0, .int .i64 0, .int .i64 0, .int .i64 0, .bool false, .bool false, .bool false] 56)) pc bs bg g N s) := h.below hbl
  have c0 := h.c0
  have l := h.lt
  clear h hbl
  go_enter Tryd.func23, Tryd.ntmps23
  go_wp2_with fail
  go_at_call 25
  refine (cNone pc bs bg g N s _ HC.out).mono ?_
  rintro e w' ⟨rfl, hw'⟩
  replace hw' := hw'.symm
  subst hw'
  go_wp2_with fail
  go_at_call 37
  obtain ⟨t, P, tie⟩ := HC.out.pr
  refine (sHas bs bg g N s t x y _ P).mono ?_
  rintro e w' ⟨rfl, hw'⟩
  replace hw' := hw'.symm
  subst hw'
  rw [hin]
  clear P tie
  go_wp2_with fail
  exact bodyPost_ret (v := .tuple #[noCel.agg, .int .i64 4]) (by simp [results, Tryd.results23, go_sem, noCel, Pn.plain]) rfl ⟨rfl, (Below.refl _ _).alloc (Nat.le_refl _) _⟩
set_option maxHeartbeats 1000000 in
theorem cCellYes (pc bs bg g N : Nat) (s : Rs) (x y : Int) (w : World) (h : CsAt w pc bs bg g N s) (hin : inG s.W s.H x y = true) :
    Calls Tryd.prog 23 #[.pointer (some ⟨pc, 0, none⟩), .int .i64 x, .int .i64 y] w fun e w' => e = .returned (.tuple #[(s.G x.toNat y.toNat).agg, .int .i64 0]) ∧ Below w.heap.size w w' := by
  obtain ⟨x0, x1, y0, y1⟩ := inG_iff.1 hin
  obtain ⟨x, rfl⟩ := Int.eq_ofNat_of_zero_le x0
  obtain ⟨y, rfl⟩ := Int.eq_ofNat_of_zero_le y0
  rw [Int.toNat_natCast, Int.toNat_natCast]
  have hbl : Below w.heap.size w (w.alloc (.cells #[.int .i32 0, .int .i64 0, .int .i64 0, .int .i64 0, .bool false, .bool false, .bool false] 56)) := (Below.refl _ _).alloc (Nat.le_refl _) _
  have HC : Hid (CsAt (w.alloc (.cells #[.int .i32 0, .int .i64 0, .int .i64 0, .int .i64 0, .bool false, .bool false, .bool false] 56)) pc bs bg g N s) := h.below hbl
  have c0 := h.c0
  have l := h.lt
  clear h hbl
  go_enter Tryd.func23, Tryd.ntmps23
  go_wp2_with fail
  go_at_call 25
  refine (cNone pc bs bg g N s _ HC.out).mono ?_
  rintro e w' ⟨rfl, hw'⟩
  replace hw' := hw'.symm
  subst hw'
  go_wp2_with fail
  go_at_call 37
  obtain ⟨t, P, tie⟩ := HC.out.pr
  refine (sHas bs bg g N s t x y _ P).mono ?_
  rintro e w' ⟨rfl, hw'⟩
  replace hw' := hw'.symm
  subst hw'
  rw [hin]
  go_wp2_with fail
  go_at_call 38
  refine (sCell bs bg g N s t x y _ P (by omega) (by omega)).mono ?_
  rintro e w2 ⟨rfl, hb2⟩
  have hz : w.heap.size < w2.heap.size := by have := hb2.size; simp at this; omega
  have hc := hb2.cells (b := w.heap.size) (by simp)
  have hf := hb2.marks (b := w.heap.size) (by simp)
  have hB : Below w.heap.size w w2 := ((Below.refl _ _).alloc (Nat.le_refl _) _).trans (hb2.mono (by simp))
  clear hb2 P tie
  go_wp2_with fail
  exact bodyPost_ret (v := .tuple #[(s.G x y).agg, .int .i64 0]) (by simp [results, Tryd.results23, go_sem, hc]) rfl ⟨rfl, ((Keep.below (fun i => i = w.heap.size) hB).put7 w.heap.size 0 (s.G x y) (fun _ => rfl)).toBelow (Nat.le_refl _) (fun i hi => by omega)⟩
end Go.Proofs.YtknhohbepkapdaaDoor

/- The program's screen: State. -/
namespace Go.Proofs.YtknhohbepkapdaaDoor
open Go.RowKit
attribute [local go_sem ↓] Go.wp_at_zero Go.wp_at_succ
set_option maxHeartbeats 2000000 in
theorem sState (bs bg g N : Nat) (s : Rs) (t : Pt) (w : World) (h : PrAt w bs bg g N s t) :
    Calls Tryd.prog 30 #[.pointer (some ⟨bs, 0, none⟩)] w fun e w' => e = .returned (stAgg s.W s.H s.x s.y s.pend s.pen s.top s.bot (decide (t.mode = 0) && decide (t.bn = 0))) ∧ Below w.heap.size w w' := by
  have HP : Hid (PrAt w bs bg g N s t) := h
  have l := h.lt
  have c0 := h.f0
  have c1 := h.f1
  have c2 := h.f2
  have c3 := h.f3
  have c4 := h.f4
  have c5 := h.f5
  have c6 := h.f6
  have c7 := h.f7
  have c8 := h.f8
  have c9 := h.f9
  have c10 := h.f10
  have c11 := h.f11
  clear h
  have nn := World.new_ne w _ c0
  go_enter Tryd.func30, Tryd.ntmps30
  go_wp2_with fail
  have hbl : Below w.heap.size w (w.alloc (.cells #[.int .i64 0, .int .i64 0, .int .i64 0, .int .i64 0, .bool false, .int .i64 0, .int .i64 0, .bool false, .bool false, .bool false, .int .i64 0, .int .i64 0, .bool false] 46)) := (Below.refl _ _).alloc (Nat.le_refl _) _
  have HD : Hid (PrAt (w.alloc (.cells #[.int .i64 0, .int .i64 0, .int .i64 0, .int .i64 0, .bool false, .int .i64 0, .int .i64 0, .bool false, .bool false, .bool false, .int .i64 0, .int .i64 0, .bool false] 46)).drew bs bg g N s t) := (HP.out.below hbl).drew
  clear hbl
  by_cases hm0 : t.mode = 0
  · rw [hm0] at c11
    go_region_held3 (fun w' => w'.cell? ⟨bs, 0, none⟩ = some (.pointer (some ⟨bg, 0, none⟩)) ∧ w'.cell? ⟨bs, 1, none⟩ = some (.int .i64 s.x) ∧ w'.cell? ⟨bs, 2, none⟩ = some (.int .i64 s.y) ∧ w'.cell? ⟨bs, 3, none⟩ = some (.bool s.pend) ∧ w'.cell? ⟨bs, 4, none⟩ = some (.int .i64 s.pen.f) ∧ w'.cell? ⟨bs, 5, none⟩ = some (.int .i64 s.pen.b) ∧ w'.cell? ⟨bs, 6, none⟩ = some (.bool s.pen.bo) ∧ w'.cell? ⟨bs, 7, none⟩ = some (.bool s.pen.un) ∧ w'.cell? ⟨bs, 8, none⟩ = some (.bool s.pen.re) ∧ w'.cell? ⟨bs, 9, none⟩ = some (.int .i64 s.top) ∧ w'.cell? ⟨bs, 10, none⟩ = some (.int .i64 s.bot) ∧ w'.cell? ⟨bs, 11, none⟩ = some (.int .i64 0)) (go_keep) (first | (go_at_call 46; refine (pWidth bg g s.W s.H N s.G _ HD.out.gr).mono ?_; rintro e w' ⟨rfl, hw'⟩; replace hw' := hw'.symm; subst hw') | (go_at_call 47; refine (pHeight bg g s.W s.H N s.G _ HD.out.gr).mono ?_; rintro e w' ⟨rfl, hw'⟩; replace hw' := hw'.symm; subst hw') | (go_at_call 48; refine (lEmpty bs bg g N s t _ HD.out).mono ?_; rintro e w' ⟨rfl, hw'⟩; replace hw' := hw'.symm; subst hw'))
    go_wp2_with fail
    exact bodyPost_ret (v := stAgg s.W s.H s.x s.y s.pend s.pen s.top s.bot (decide (t.mode = 0) && decide (t.bn = 0))) (by simp [results, Tryd.results30, go_sem, hm0]) rfl ⟨rfl, ((Below.refl _ _).alloc (Nat.le_refl _) _).drew⟩
  · have hm1 : (t.mode == 0) = false := by simp [hm0]
    first | (go_region_held (fun w' => w'.cell? ⟨bs, 0, none⟩ = some (.pointer (some ⟨bg, 0, none⟩)) ∧ w'.cell? ⟨bs, 1, none⟩ = some (.int .i64 s.x) ∧ w'.cell? ⟨bs, 2, none⟩ = some (.int .i64 s.y) ∧ w'.cell? ⟨bs, 3, none⟩ = some (.bool s.pend) ∧ w'.cell? ⟨bs, 4, none⟩ = some (.int .i64 s.pen.f) ∧ w'.cell? ⟨bs, 5, none⟩ = some (.int .i64 s.pen.b) ∧ w'.cell? ⟨bs, 6, none⟩ = some (.bool s.pen.bo) ∧ w'.cell? ⟨bs, 7, none⟩ = some (.bool s.pen.un) ∧ w'.cell? ⟨bs, 8, none⟩ = some (.bool s.pen.re) ∧ w'.cell? ⟨bs, 9, none⟩ = some (.int .i64 s.top) ∧ w'.cell? ⟨bs, 10, none⟩ = some (.int .i64 s.bot) ∧ w'.cell? ⟨bs, 11, none⟩ = some (.int .i64 t.mode)) (go_keep) (first | (go_at_call 46; refine (pWidth bg g s.W s.H N s.G _ HD.out.gr).mono ?_; rintro e w' ⟨rfl, hw'⟩; replace hw' := hw'.symm; subst hw') | (go_at_call 47; refine (pHeight bg g s.W s.H N s.G _ HD.out.gr).mono ?_; rintro e w' ⟨rfl, hw'⟩; replace hw' := hw'.symm; subst hw') | (go_at_call 48; refine (lEmpty bs bg g N s t _ HD.out).mono ?_; rintro e w' ⟨rfl, hw'⟩; replace hw' := hw'.symm; subst hw'))) | fail
    go_wp2_with fail
    exact bodyPost_ret (v := stAgg s.W s.H s.x s.y s.pend s.pen s.top s.bot (decide (t.mode = 0) && decide (t.bn = 0))) (by simp [results, Tryd.results30, go_sem, hm0]) rfl ⟨rfl, ((Below.refl _ _).alloc (Nat.le_refl _) _).drew⟩
end Go.Proofs.YtknhohbepkapdaaDoor

/- The program's calls: State, Width. -/
namespace Go.Proofs.YtknhohbepkapdaaDoor
open Go.RowKit
attribute [local go_sem ↓] Go.wp_at_zero Go.wp_at_succ
theorem tie_ground {s : Rs} {t : Pt} (h : Tie s.B t) : (decide (t.mode = 0) && decide (t.bn = 0)) = groundB s := by
  unfold groundB
  rcases h with ⟨e, hm, h0⟩ | ⟨e, hm, h0⟩ | ⟨l, e, hm, h0, _⟩ | ⟨a, e, hm, h0, _⟩ | ⟨a, b, e, hm, h0, _⟩ | ⟨a, b, d, e, hm, h0, _⟩
  · rw [e, hm, h0, ByteArray.toList_eq]; rfl
  · rw [e, hm, h0, ByteArray.toList_eq]; rfl
  all_goals
    rw [e, hm, h0]
    have : ∀ (x : UInt8) (l : List UInt8), (⟨(x :: l).toArray⟩ : ByteArray).toList.isEmpty = false := by
      intro x l
      rw [ByteArray.toList_eq]
      rfl
    first
      | (rw [this]; rfl)
      | (have q := this a [b, d]; rw [q]; rfl)
      | (have q := this a [b]; rw [q]; rfl)
      | (have q := this a []; rw [q]; rfl)
theorem cStateNil (w : World) :
    Calls Tryd.prog 16 #[.pointer none] w fun e w' => e = .returned (stAgg 0 0 0 0 false Pn.plain 0 0 false) ∧ Below w.heap.size w w' := by
  go_enter Tryd.func16, Tryd.ntmps16
  go_wp2_with (first | (go_at_call 25; refine (cNoneNil _).mono ?_; rintro e w' ⟨rfl, hw'⟩; replace hw' := hw'.symm; subst hw'))
  exact bodyPost_ret (v := stAgg 0 0 0 0 false Pn.plain 0 0 false) (by simp [results, Tryd.results16, go_sem, Pn.plain]) rfl ⟨rfl, (Below.refl _ _).alloc (Nat.le_refl _) _⟩
set_option maxHeartbeats 2000000 in
theorem cState (pc bs bg g N : Nat) (s : Rs) (w : World) (h : CsAt w pc bs bg g N s) :
    Calls Tryd.prog 16 #[.pointer (some ⟨pc, 0, none⟩)] w fun e w' => e = .returned (stAgg s.W s.H s.x s.y s.pend s.pen s.top s.bot (groundB s)) ∧ Below w.heap.size w w' := by
  have hbl : Below w.heap.size w (w.alloc (.cells #[.int .i64 0, .int .i64 0, .int .i64 0, .int .i64 0, .bool false, .int .i64 0, .int .i64 0, .bool false, .bool false, .bool false, .int .i64 0, .int .i64 0, .bool false] 46)) := (Below.refl _ _).alloc (Nat.le_refl _) _
  have HC : Hid (CsAt (w.alloc (.cells #[.int .i64 0, .int .i64 0, .int .i64 0, .int .i64 0, .bool false, .int .i64 0, .int .i64 0, .bool false, .bool false, .bool false, .int .i64 0, .int .i64 0, .bool false] 46)) pc bs bg g N s) := h.below hbl
  have c0 := h.c0
  have l := h.lt
  clear h hbl
  go_enter Tryd.func16, Tryd.ntmps16
  go_wp2_with fail
  go_at_call 25
  refine (cNone pc bs bg g N s _ HC.out).mono ?_
  rintro e w' ⟨rfl, hw'⟩
  replace hw' := hw'.symm
  subst hw'
  go_wp2_with fail
  go_at_call 30
  obtain ⟨t, P, tie⟩ := HC.out.pr
  refine (sState bs bg g N s t _ P).mono ?_
  rintro e w2 ⟨rfl, hb2⟩
  rw [tie_ground tie]
  have hz : w.heap.size < w2.heap.size := by have := hb2.size; simp at this; omega
  have hc := hb2.cells (b := w.heap.size) (by simp)
  have hf := hb2.marks (b := w.heap.size) (by simp)
  have hB : Below w.heap.size w w2 := ((Below.refl _ _).alloc (Nat.le_refl _) _).trans (hb2.mono (by simp))
  clear hb2 P tie
  go_wp2_with fail
  exact bodyPost_ret (v := stAgg s.W s.H s.x s.y s.pend s.pen s.top s.bot (groundB s)) (by simp [results, Tryd.results16, go_sem, hc]) rfl ⟨rfl, Keep.toBelow ((((((((((((((Keep.below (fun i => i = w.heap.size) hB).setCell ⟨w.heap.size, 0, none⟩ _ (fun _ => rfl)).setCell ⟨w.heap.size, 1, none⟩ _ (fun _ => rfl)).setCell ⟨w.heap.size, 2, none⟩ _ (fun _ => rfl)).setCell ⟨w.heap.size, 3, none⟩ _ (fun _ => rfl)).setCell ⟨w.heap.size, 4, none⟩ _ (fun _ => rfl)).setCell ⟨w.heap.size, 5, none⟩ _ (fun _ => rfl)).setCell ⟨w.heap.size, 6, none⟩ _ (fun _ => rfl)).setCell ⟨w.heap.size, 7, none⟩ _ (fun _ => rfl)).setCell ⟨w.heap.size, 8, none⟩ _ (fun _ => rfl)).setCell ⟨w.heap.size, 9, none⟩ _ (fun _ => rfl)).setCell ⟨w.heap.size, 10, none⟩ _ (fun _ => rfl)).setCell ⟨w.heap.size, 11, none⟩ _ (fun _ => rfl)).setCell ⟨w.heap.size, 12, none⟩ _ (fun _ => rfl)) (Nat.le_refl _) (fun i hi => by omega)⟩
theorem cWidth (n : Int) (w : World) :
    Calls Tryd.prog 27 #[.int .i32 n] w fun e w' => e = .returned (.int .i64 (Wd.wd n)) ∧ w' = w := by
  go_enter Tryd.func27, Tryd.ntmps27
  go_wp2_with (first | (go_at_call 42; refine (Wd.lettersWidth _ _).mono ?_; rintro e w' ⟨rfl, hw'⟩; replace hw' := hw'.symm; subst hw'))
  go_ret
  exact ⟨rfl, rfl⟩
end Go.Proofs.YtknhohbepkapdaaDoor
