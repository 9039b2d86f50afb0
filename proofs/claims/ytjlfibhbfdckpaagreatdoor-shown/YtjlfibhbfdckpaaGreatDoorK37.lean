/- Texts of the proof, one behind the other: PuQ, PuR, PuS, SfA, VwA, VwB. -/
import Derived.Test.YtjlfibhbfdckpaaGreatDoorK15
import Derived.Test.YtjlfibhbfdckpaaGreatDoorK17
import Derived.Test.YtjlfibhbfdckpaaGreatDoorK28
import Derived.Test.YtjlfibhbfdckpaaGreatDoorK29
import Derived.Test.YtjlfibhbfdckpaaGreatDoorK36
/- The program's calls: NewScreen, Feed, Resize, Cell. -/
namespace Go.Proofs.YtjlfibhbfdckpaaGreatDoor
open Go.RowKit
attribute [local go_sem ↓] Go.wp_at_zero Go.wp_at_succ
/-- The program's screen, as its calls have it: a block with a pointer to the inner one; no block is one of the tables'. -/
structure CsAt (w : World) (pc bs bg g N : Nat) (s : Rs) : Prop where
  blk : w.heap[pc]? = some (.cells #[.pointer (some ⟨bs, 0, none⟩)] 91)
  pr : ∃ t, PrAt w bs bg g N s t ∧ Tie s.B t
  ok : s.Ok
  ne1 : pc ≠ bs
  ne2 : pc ≠ bg
  ne3 : pc ≠ g
  l1 : 2 ≤ bs
  l2 : 2 ≤ bg
  l3 : 2 ≤ g
section
variable {w w' : World} {pc bs bg g N : Nat} {s : Rs}
theorem CsAt.lt (h : CsAt w pc bs bg g N s) : pc < w.heap.size := (Array.getElem?_eq_some_iff.1 h.blk).1
theorem CsAt.c0 (h : CsAt w pc bs bg g N s) : w.cell? ⟨pc, 0, none⟩ = some (.pointer (some ⟨bs, 0, none⟩)) := cell_of_block h.blk 0
theorem CsAt.same (h : CsAt w pc bs bg g N s) (h0 : w'.heap[pc]? = w.heap[pc]?) (h1 : w'.heap[bs]? = w.heap[bs]?) (h2 : w'.heap[bg]? = w.heap[bg]?) (h3 : w'.heap[g]? = w.heap[g]?) : CsAt w' pc bs bg g N s := by
  obtain ⟨t, P, T⟩ := h.pr
  exact ⟨by rw [h0]; exact h.blk, ⟨t, P.same h1 h2 h3, T⟩, h.ok, h.ne1, h.ne2, h.ne3, h.l1, h.l2, h.l3⟩
theorem CsAt.keep {F : Nat → Prop} (h : CsAt w pc bs bg g N s) (k : Keep F w w') (h0 : ¬ F pc) (h1 : ¬ F bs) (h2 : ¬ F bg) (h3 : ¬ F g) : CsAt w' pc bs bg g N s := by
  obtain ⟨t, P, T⟩ := h.pr
  exact h.same (k.block _ h.lt h0) (k.block _ P.lt h1) (k.block _ P.gr.lt h2) (k.block _ P.gr.glt h3)
theorem CsAt.below (h : CsAt w pc bs bg g N s) (hb : Below w.heap.size w w') : CsAt w' pc bs bg g N s :=
  h.keep (Keep.below (fun _ => False) hb) id id id id
end
def CPost (pc bs bg g : Nat) (w : World) (s : Rs) (r : Value) (e : Ending) (w' : World) : Prop :=
  ∃ g' N', e = .returned r ∧ CsAt w' pc bs bg g' N' s ∧ Keep (fun i => i = bs ∨ i = bg ∨ i = g) w w' ∧ (g' = g ∨ w.heap.size ≤ g')
theorem cNone (pc bs bg g N : Nat) (s : Rs) (w : World) (h : CsAt w pc bs bg g N s) :
    Calls Tryz.prog 58 #[.pointer (some ⟨pc, 0, none⟩)] w fun e w' => e = .returned (.bool false) ∧ w' = w := by
  have c := h.c0
  clear h
  go_enter Tryz.func58, Tryz.ntmps58
  go_wp2
  go_ret
  exact ⟨rfl, rfl⟩
set_option maxHeartbeats 1000000 in
theorem cNewYes (W H : Nat) (w : World) (w1 : 1 ≤ W) (w2 : W ≤ 40) (h1 : 1 ≤ H) (h2 : H ≤ 20) (hw : 2 ≤ w.heap.size) :
    Calls Tryz.prog 45 #[.int .i64 W, .int .i64 H] w fun e w' => ∃ pc bs bg g, e = .returned (.tuple #[.pointer (some ⟨pc, 0, none⟩), .int .i64 0]) ∧ CsAt w' pc bs bg g (H * W) (newR W H) ∧ Below w.heap.size w w' ∧ w.heap.size ≤ pc ∧ w.heap.size ≤ bs ∧ w.heap.size ≤ bg ∧ w.heap.size ≤ g := by
  have hs : sizeB W H = true := sizeB_iff.2 (by omega)
  go_enter Tryz.func45, Tryz.ntmps45
  go_wp2_with (first | (go_at_call 46; refine (pMayBe _ _ _).mono ?_; rintro e w' ⟨rfl, hw'⟩; replace hw' := hw'.symm; subst hw'))
  go_at_call 106
  refine (sNew W H _ w1 w2 h1 h2).mono ?_
  rintro e wa ⟨bs, bg, g, rfl, P1, b1, l1, l2, l3⟩
  have HP1 : Hid (PrAt wa bs bg g (H * W) (newR W H) newT) := P1
  have HB1 : Hid (Below w.heap.size w wa) := b1
  clear P1 b1
  go_wp2_with fail
  go_ret2
  have p := HP1.out
  have hbl : Below wa.heap.size wa (wa.alloc (.cells #[.pointer (some ⟨bs, 0, none⟩)] 91)) := (Below.refl _ _).alloc (Nat.le_refl _) _
  have q1 := p.lt
  have q2 := p.gr.lt
  have q3 := p.gr.glt
  exact ⟨wa.heap.size, bs, bg, g, rfl, ⟨heap_new wa _, ⟨newT, p.below hbl, tie0 rfl rfl⟩, newR_ok w1 w2 h1 h2, by omega, by omega, by omega, by omega, by omega, by omega⟩, HB1.out.trans (hbl.mono HB1.out.size), HB1.out.size, l1, l2, l3⟩
theorem feed_ok (l : List UInt8) : ∀ {s : Rs}, s.Ok → (feedR s l).Ok := by
  induction l with
  | nil => intro s h; exact h
  | cons c r ih => intro s h; exact ih (h.one c)
set_option maxHeartbeats 1000000 in
theorem cFeed (pc bs bg g N : Nat) (s : Rs) (b : ByteArray) (w : World) (h : CsAt w pc bs bg g N s) (T : Tabs w) (hb : b.size ≤ 9223372036854775807) :
    Calls Tryz.prog 22 #[.pointer (some ⟨pc, 0, none⟩), .string b] w (CPost pc bs bg g w (feedR s b.data.toList) (.tuple #[])) := by
  have HC : Hid (CsAt w pc bs bg g N s) := h
  have HT : Hid (Tabs w) := T
  have c0 := h.c0
  clear h T
  go_enter Tryz.func22, Tryz.ntmps22
  go_wp2_with (first | (go_at_call 58; refine (cNone pc bs bg g N s _ HC.out).mono ?_; rintro e w' ⟨rfl, hw'⟩; replace hw' := hw'.symm; subst hw'))
  go_at_call 62
  obtain ⟨t, P, tie⟩ := HC.out.pr
  have l1 := HC.out.l1
  have l2 := HC.out.l2
  have l3 := HC.out.l3
  refine (sFeed bs bg g N s t b _ P HC.out.ok HT.out tie (by omega) (by omega) (by omega) (by omega) (by omega) (by omega) hb).mono ?_
  rintro e wa ⟨rfl, P1, K1⟩
  have HP1 : Hid (∃ t, PrAt wa bs bg g N (feedR s b.data.toList) t ∧ Tie (feedR s b.data.toList).B t) := P1
  clear P tie P1
  go_wp2_with fail
  go_end0
  have q := HC.out
  exact ⟨g, N, rfl, ⟨by rw [K1.block _ q.lt (fun h => by have := q.ne1; have := q.ne2; have := q.ne3; omega)]; exact q.blk, HP1.out, feed_ok _ q.ok, q.ne1, q.ne2, q.ne3, l1, l2, l3⟩, K1, Or.inl rfl⟩
set_option maxHeartbeats 1000000 in
theorem cResizeYes (pc bs bg g N : Nat) (s : Rs) (W H : Nat) (w : World) (h : CsAt w pc bs bg g N s) (w1 : 1 ≤ W) (w2 : W ≤ 40) (h1 : 1 ≤ H) (h2 : H ≤ 20) :
    Calls Tryz.prog 19 #[.pointer (some ⟨pc, 0, none⟩), .int .i64 W, .int .i64 H] w (CPost pc bs bg g w (resizeR s W H) (.int .i64 0)) := by
  have hs : sizeB W H = true := sizeB_iff.2 (by omega)
  have HC : Hid (CsAt w pc bs bg g N s) := h
  have c0 := h.c0
  clear h
  go_enter Tryz.func19, Tryz.ntmps19
  go_wp2_with (first | (go_at_call 58; refine (cNone pc bs bg g N s _ HC.out).mono ?_; rintro e w' ⟨rfl, hw'⟩; replace hw' := hw'.symm; subst hw') | (go_at_call 46; refine (pMayBe _ _ _).mono ?_; rintro e w' ⟨rfl, hw'⟩; replace hw' := hw'.symm; subst hw'))
  go_at_call 59
  obtain ⟨t, P, tie⟩ := HC.out.pr
  have hlt := HC.out.lt
  have l3 := HC.out.l3
  refine (sResize bs bg g N s t W H _ P HC.out.ok w1 w2 h1 h2).mono ?_
  rintro e wa ⟨g1, N1, rfl, P1, K1, hg⟩
  have HP1 : Hid (∃ t, PrAt wa bs bg g1 N1 (resizeR s W H) t ∧ Tie (resizeR s W H).B t) := ⟨t, P1, tie⟩
  clear P tie P1
  go_wp2_with fail
  go_ret
  have q := HC.out
  have := q.ne1
  have := q.ne2
  have := q.ne3
  have hsz := K1.size
  have hp : 2 ≤ w.heap.size := by have := q.l1; obtain ⟨t, P, _⟩ := q.pr; have := P.lt; omega
  exact ⟨g1, N1, rfl, ⟨by rw [K1.block _ q.lt (fun h => by omega)]; exact q.blk, HP1.out, resizeR_ok q.ok w1 w2 h1 h2, q.ne1, q.ne2, by omega, q.l1, q.l2, by omega⟩, K1, hg⟩
end Go.Proofs.YtjlfibhbfdckpaaGreatDoor

/- The program's calls: Cell. -/
namespace Go.Proofs.YtjlfibhbfdckpaaGreatDoor
open Go.RowKit
attribute [local go_sem ↓] Go.wp_at_zero Go.wp_at_succ
set_option maxHeartbeats 1000000 in
theorem cCellYes (pc bs bg g N : Nat) (s : Rs) (x y : Int) (w : World) (h : CsAt w pc bs bg g N s) (hin : inG s.W s.H x y = true) :
    Calls Tryz.prog 60 #[.pointer (some ⟨pc, 0, none⟩), .int .i64 x, .int .i64 y] w fun e w' => e = .returned (.tuple #[(s.G x.toNat y.toNat).agg, .int .i64 0]) ∧ Below w.heap.size w w' := by
  obtain ⟨x0, x1, y0, y1⟩ := inG_iff.1 hin
  obtain ⟨x, rfl⟩ := Int.eq_ofNat_of_zero_le x0
  obtain ⟨y, rfl⟩ := Int.eq_ofNat_of_zero_le y0
  rw [Int.toNat_natCast, Int.toNat_natCast]
  have hbl : Below w.heap.size w (w.alloc (.cells #[.int .i32 0, .int .i64 0, .int .i64 0, .int .i64 0, .bool false, .bool false, .bool false] 38)) := (Below.refl _ _).alloc (Nat.le_refl _) _
  have HC : Hid (CsAt (w.alloc (.cells #[.int .i32 0, .int .i64 0, .int .i64 0, .int .i64 0, .bool false, .bool false, .bool false] 38)) pc bs bg g N s) := h.below hbl
  have c0 := h.c0
  have l := h.lt
  clear h hbl
  go_enter Tryz.func60, Tryz.ntmps60
  go_wp2_with fail
  go_at_call 58
  refine (cNone pc bs bg g N s _ HC.out).mono ?_
  rintro e w' ⟨rfl, hw'⟩
  replace hw' := hw'.symm
  subst hw'
  go_wp2_with fail
  go_at_call 121
  obtain ⟨t, P, tie⟩ := HC.out.pr
  refine (sHas bs bg g N s t x y _ P).mono ?_
  rintro e w' ⟨rfl, hw'⟩
  replace hw' := hw'.symm
  subst hw'
  rw [hin]
  go_wp2_with fail
  go_at_call 122
  refine (sCell bs bg g N s t x y _ P (by omega) (by omega)).mono ?_
  rintro e w2 ⟨rfl, hb2⟩
  have hz : w.heap.size < w2.heap.size := by have := hb2.size; simp at this; omega
  have hc := hb2.cells (b := w.heap.size) (by simp)
  have hf := hb2.marks (b := w.heap.size) (by simp)
  have hB : Below w.heap.size w w2 := ((Below.refl _ _).alloc (Nat.le_refl _) _).trans (hb2.mono (by simp))
  clear hb2 P tie
  go_wp2_with fail
  exact bodyPost_ret (v := .tuple #[(s.G x y).agg, .int .i64 0]) (by simp [results, Tryz.results60, go_sem, hc]) rfl ⟨rfl, ((Keep.below (fun i => i = w.heap.size) hB).put7 w.heap.size 0 (s.G x y) (fun _ => rfl)).toBelow (Nat.le_refl _) (fun i hi => by omega)⟩
end Go.Proofs.YtjlfibhbfdckpaaGreatDoor

/- The program's calls: State, Width. -/
namespace Go.Proofs.YtjlfibhbfdckpaaGreatDoor
open Go.RowKit
attribute [local go_sem ↓] Go.wp_at_zero Go.wp_at_succ
theorem tie_ground {s : Rs} {t : Pt} (h : Tie s.B t) : (decide (t.mode = 0) && decide (t.bn = 0)) = groundB s := by
  unfold groundB
  rcases h with ⟨e, hm, h0⟩ | ⟨e, hm, h0⟩ | ⟨l, e, hm, h0, _⟩ | ⟨a, e, hm, h0, _⟩ | ⟨a, b, e, hm, h0, _⟩ | ⟨a, b, d, e, hm, h0, _⟩
  · rw [e, hm, h0, ByteArray.toList_eq]; rfl
  · rw [e, hm, h0, ByteArray.toList_eq]; rfl
  all_goals
    rw [e, hm, h0]
    have : ∀ (x : UInt8) (l : List UInt8), (⟨(x :: l).toArray⟩ : ByteArray).toList.isEmpty = false := by
      intro x l
      rw [ByteArray.toList_eq]
      rfl
    first
      | (rw [this]; rfl)
      | (have q := this a [b, d]; rw [q]; rfl)
      | (have q := this a [b]; rw [q]; rfl)
      | (have q := this a []; rw [q]; rfl)
set_option maxHeartbeats 2000000 in
theorem cState (pc bs bg g N : Nat) (s : Rs) (w : World) (h : CsAt w pc bs bg g N s) :
    Calls Tryz.prog 23 #[.pointer (some ⟨pc, 0, none⟩)] w fun e w' => e = .returned (stAgg s.W s.H s.x s.y s.pend s.pen s.top s.bot (groundB s)) ∧ Below w.heap.size w w' := by
  have hbl : Below w.heap.size w (w.alloc (.cells #[.int .i64 0, .int .i64 0, .int .i64 0, .int .i64 0, .bool false, .int .i64 0, .int .i64 0, .bool false, .bool false, .bool false, .int .i64 0, .int .i64 0, .bool false] 59)) := (Below.refl _ _).alloc (Nat.le_refl _) _
  have HC : Hid (CsAt (w.alloc (.cells #[.int .i64 0, .int .i64 0, .int .i64 0, .int .i64 0, .bool false, .int .i64 0, .int .i64 0, .bool false, .bool false, .bool false, .int .i64 0, .int .i64 0, .bool false] 59)) pc bs bg g N s) := h.below hbl
  have c0 := h.c0
  have l := h.lt
  clear h hbl
  go_enter Tryz.func23, Tryz.ntmps23
  go_wp2_with fail
  go_at_call 58
  refine (cNone pc bs bg g N s _ HC.out).mono ?_
  rintro e w' ⟨rfl, hw'⟩
  replace hw' := hw'.symm
  subst hw'
  go_wp2_with fail
  go_at_call 63
  obtain ⟨t, P, tie⟩ := HC.out.pr
  refine (sState bs bg g N s t _ P).mono ?_
  rintro e w2 ⟨rfl, hb2⟩
  rw [tie_ground tie]
  have hz : w.heap.size < w2.heap.size := by have := hb2.size; simp at this; omega
  have hc := hb2.cells (b := w.heap.size) (by simp)
  have hf := hb2.marks (b := w.heap.size) (by simp)
  have hB : Below w.heap.size w w2 := ((Below.refl _ _).alloc (Nat.le_refl _) _).trans (hb2.mono (by simp))
  clear hb2 P tie
  go_wp2_with fail
  exact bodyPost_ret (v := stAgg s.W s.H s.x s.y s.pend s.pen s.top s.bot (groundB s)) (by simp [results, Tryz.results23, go_sem, hc]) rfl ⟨rfl, Keep.toBelow ((((((((((((((Keep.below (fun i => i = w.heap.size) hB).setCell ⟨w.heap.size, 0, none⟩ _ (fun _ => rfl)).setCell ⟨w.heap.size, 1, none⟩ _ (fun _ => rfl)).setCell ⟨w.heap.size, 2, none⟩ _ (fun _ => rfl)).setCell ⟨w.heap.size, 3, none⟩ _ (fun _ => rfl)).setCell ⟨w.heap.size, 4, none⟩ _ (fun _ => rfl)).setCell ⟨w.heap.size, 5, none⟩ _ (fun _ => rfl)).setCell ⟨w.heap.size, 6, none⟩ _ (fun _ => rfl)).setCell ⟨w.heap.size, 7, none⟩ _ (fun _ => rfl)).setCell ⟨w.heap.size, 8, none⟩ _ (fun _ => rfl)).setCell ⟨w.heap.size, 9, none⟩ _ (fun _ => rfl)).setCell ⟨w.heap.size, 10, none⟩ _ (fun _ => rfl)).setCell ⟨w.heap.size, 11, none⟩ _ (fun _ => rfl)).setCell ⟨w.heap.size, 12, none⟩ _ (fun _ => rfl)) (Nat.le_refl _) (fun i hi => by omega)⟩
end Go.Proofs.YtjlfibhbfdckpaaGreatDoor

/- The statements without the document's answer: pick, screen, works. -/
namespace Go.Proofs.YtjlfibhbfdckpaaGreatDoor
open Go.RowKit
attribute [local go_sem ↓] Go.wp_at_zero Go.wp_at_succ
set_option maxHeartbeats 1000000 in
theorem kScreen (x y : Int) (w : World) (hw : 2 ≤ w.heap.size) (x0 : -9223372036854775808 ≤ x) (x1 : x ≤ 9223372036854775807) (y0 : -9223372036854775808 ≤ y) (y1 : y ≤ 9223372036854775807) :
    Calls Tryz.prog 14 #[.int .i64 x, .int .i64 y] w fun e w' => ∃ pc bs bg g N, e = .returned (.pointer (some ⟨pc, 0, none⟩)) ∧ CsAt w' pc bs bg g N (newR (1 + pickK x 40) (1 + pickK y 20)) ∧ Below w.heap.size w w' ∧ w.heap.size ≤ pc ∧ w.heap.size ≤ bs ∧ w.heap.size ≤ bg ∧ w.heap.size ≤ g := by
  have l1 := pickK_lt x (n := 40) (by omega)
  have l2 := pickK_lt y (n := 20) (by omega)
  obtain ⟨W, hW⟩ : ∃ W, 1 + pickK x 40 = W := ⟨_, rfl⟩
  obtain ⟨H, hH⟩ : ∃ H, 1 + pickK y 20 = H := ⟨_, rfl⟩
  have eW : (1 : Int) + (pickK x 40 : Nat) = (W : Int) := by omega
  have eH : (1 : Int) + (pickK y 20 : Nat) = (H : Int) := by omega
  rw [hW, hH]
  have W1 : 1 ≤ W := by omega
  have W2 : W ≤ 40 := by omega
  have H1 : 1 ≤ H := by omega
  have H2 : H ≤ 20 := by omega
  clear hW hH
  go_enter Tryz.func14, Tryz.ntmps14
  go_wp2_with fail
  go_at_call 16
  refine (kPick x 40 _ (by omega) (by omega) x0 x1).mono ?_
  rintro e w' ⟨rfl, hw'⟩
  replace hw' := hw'.symm
  subst hw'
  go_wp2_with fail
  go_at_call 16
  refine (kPick y 20 _ (by omega) (by omega) y0 y1).mono ?_
  rintro e w' ⟨rfl, hw'⟩
  replace hw' := hw'.symm
  subst hw'
  go_wp2_with fail
  go_at_call 45
  refine (cNewYes W H _ W1 W2 H1 H2 hw).mono ?_
  rintro e wa ⟨pc, bs, bg, g, rfl, C1, b1, q0, q1, q2, q3⟩
  have HC1 : Hid (CsAt wa pc bs bg g (H * W) (newR W H)) := C1
  have HB1 : Hid (Below w.heap.size w wa) := b1
  clear C1 b1
  go_wp2_with fail
  go_ret
  exact ⟨pc, bs, bg, g, H * W, rfl, HC1.out, HB1.out, q0, q1, q2, q3⟩
end Go.Proofs.YtjlfibhbfdckpaaGreatDoor

/- The statement of what is shown: shows. -/
namespace Go.Proofs.YtjlfibhbfdckpaaGreatDoor
open Go.RowKit
attribute [local go_sem ↓] Go.wp_at_zero Go.wp_at_succ
def shB (s : Rs) (P : Nat → Nat → Cel) (i : Nat) : Bool := differsB s P (i % s.W) (i / s.W)
theorem sh_at (s : Rs) (P : Nat → Nat → Cel) {x y : Nat} (hx : x < s.W) : shB s P (y * s.W + x) = !(s.G x y).eqB (P x y) := by
  unfold shB differsB
  rw [Nat.add_comm, Nat.add_mul_mod_self_right, Nat.mod_eq_of_lt hx, Nat.add_mul_div_right _ _ (by omega), Nat.div_eq_of_lt hx, Nat.zero_add]
set_option maxHeartbeats 8000000 in
set_option maxRecDepth 100000 in
theorem kShows {M : Mm} {L : List Wn} {last : Int} {N : Nat} {sd : Rs} {td : Pt} {rk : Int → Nat} {K : Nat} (pc bs bg g Nc : Nat) (s : Rs) (w : World) (hc : CsAt w pc bs bg g Nc s) (T : Tree L rk K) (ok : DOk L last) (h : DkAt w M L last N sd td) (r : Wn) (hr : r ∈ L) (hr0 : r.n = 0) (eW : r.W = s.W) (eH : r.H = s.H) (P : Nat → Nat → Cel) (hP : (fun x y : Nat => picP L K r x y) = P) :
    Calls Tryz.prog 20 #[.pointer (some ⟨pc, 0, none⟩), .pointer (some ⟨M.t 0, 0, none⟩)] w fun e w' => e = .returned (.int .i64 (cntB (shB s P) (s.H * s.W) : Nat)) ∧ Below w.heap.size w w' := by
  have HH : Hid (CsAt w pc bs bg g Nc s) := hc
  have HD : Hid (DkAt w M L last N sd td ∧ Tree L rk K ∧ DOk L last ∧ r ∈ L ∧ r.n = 0 ∧ r.W = s.W ∧ r.H = s.H) := ⟨h, T, ok, hr, hr0, eW, eH⟩
  have HP : Hid ((fun x y : Nat => picP L K r x y) = P) := hP
  have w1 := hc.ok.w1
  have w2 := hc.ok.w2
  have hH : s.H ≤ 20 := hc.ok.h2
  have hmul : s.H * s.W ≤ 20 * 40 := Nat.mul_le_mul hH w2
  have Hcnt : Hid (∀ i, cntB (shB s P) i ≤ i) := cnt_le _
  clear hc h T ok hr hr0 eW eH hP
  go_enter Tryz.func20, Tryz.ntmps20
  go_wp2_with fail
  go_at_call 23
  refine (cState pc bs bg g Nc s w HH.out).mono ?_
  rintro e wS ⟨rfl, hbS⟩
  have HS : Hid (Below w.heap.size w wS) := hbS
  clear hbS
  go_upto_region 3 with fail
  have hA : ∃ wA B, wS.alloc (.cells #[.int .i64 s.W, .int .i64 s.H, .int .i64 s.x, .int .i64 s.y, .bool s.pend, .int .i64 s.pen.f, .int .i64 s.pen.b, .bool s.pen.bo, .bool s.pen.un, .bool s.pen.re, .int .i64 s.top, .int .i64 s.bot, .bool (groundB s)] 59) = wA ∧ wS.heap.size = B ∧ Below wS.heap.size wS wA ∧ wA.cell? ⟨B, 0, none⟩ = some (.int .i64 s.W) ∧ wA.cell? ⟨B, 1, none⟩ = some (.int .i64 s.H) := ⟨_, _, rfl, rfl, (Below.refl _ _).alloc (Nat.le_refl _) _, cell_of_block (heap_new _ _) 0, cell_of_block (heap_new _ _) 1⟩
  obtain ⟨wA, B, hwA, hB, belA, cW, cH⟩ := hA
  rw [hwA]
  try rw [hB]
  have zB : B < wA.heap.size := World.block_lt_of_cell? _ _ cW
  have HA : Hid (Below w.heap.size w wA ∧ wA.cell? ⟨B, 0, none⟩ = some (.int .i64 s.W) ∧ wA.cell? ⟨B, 1, none⟩ = some (.int .i64 s.H)) := ⟨HS.out.trans (belA.mono HS.out.size), cW, cH⟩
  clear hwA hB belA cW cH HS
  go_wp2_with fail
  go_loopw [7, 6] (fun vi vs wr => ∃ y : Nat, vi = .int .i64 y ∧ y ≤ s.H ∧ vs = .int .i64 (cntB (shB s P) (y * s.W) : Nat) ∧ Below wA.heap.size wA wr) (fun vi _ _ => s.H - (intOf vi).toNat)
  case atStart => exact ⟨0, rfl, Nat.zero_le _, by simp [cntB], Below.refl _ _⟩
  case round =>
    obtain ⟨y, rfl, hy, rfl, hbw⟩ := hrel
    have HB : Hid (Below wA.heap.size wA wr) := hbw
    have cH : wr.cell? ⟨B, 1, none⟩ = some (.int .i64 s.H) := (hbw.cells zB 1).trans HA.out.2.2
    clear hbw
    by_cases hc : y < s.H
    · have hc' : (y : Int) < (s.H : Int) := by omega
      go_wp2_with fail
      go_loopw [8, 6] (fun vi vs wi => ∃ x : Nat, vi = .int .i64 x ∧ x ≤ s.W ∧ vs = .int .i64 (cntB (shB s P) (y * s.W + x) : Nat) ∧ Below wA.heap.size wA wi) (fun vi _ _ => s.W - (intOf vi).toNat)
      case atStart => exact ⟨0, rfl, Nat.zero_le _, rfl, HB.out⟩
      case round =>
        obtain ⟨x, rfl, hx, rfl, hbi⟩ := hrel
        have HBi : Hid (Below wA.heap.size wA wr) := hbi
        have HW : Hid (Below w.heap.size w wr) := HA.out.1.trans (hbi.mono HA.out.1.size)
        have cW : wr.cell? ⟨B, 0, none⟩ = some (.int .i64 s.W) := (hbi.cells zB 0).trans HA.out.2.1
        have hyW : y * s.W + s.W ≤ s.H * s.W := by rw [← Nat.succ_mul]; exact Nat.mul_le_mul_right _ hc
        clear hbi cH
        by_cases hxc : x < s.W
        · have hxc' : (x : Int) < (s.W : Int) := by omega
          have hcl := Hcnt.out (y * s.W + x)
          have Hnx : Hid (cntB (shB s P) (y * s.W + (x + 1)) = cntB (shB s P) (y * s.W + x) + (if (!(s.G x y).eqB (P x y)) = true then 1 else 0)) := by
            show _ = _
            rw [← Nat.add_assoc, cnt_succ, sh_at s P hxc]
          obtain ⟨sm, hsm⟩ : ∃ sm, cntB (shB s P) (y * s.W + x) = sm := ⟨_, rfl⟩
          have hsl : sm ≤ 800 := by omega
          rw [hsm] at Hnx ⊢
          have Hyx : Hid (y < s.H ∧ x < s.W) := ⟨hc, hxc⟩
          clear hcl hsm hyW hmul hH hc hxc hx hy
          go_wp2_with fail
          go_at_call 60
          refine (cCellYes pc bs bg g Nc s x y wr (HH.out.below HW.out) (inG_iff.2 (by have := Hyx.out; omega))).mono ?_
          rintro e w3 ⟨rfl, hb3⟩
          rw [Int.toNat_natCast, Int.toNat_natCast]
          have H3 : Hid (Below wr.heap.size wr w3) := hb3
          obtain ⟨ca, hca⟩ : ∃ ca, s.G x y = ca := ⟨_, rfl⟩
          rw [hca] at Hnx ⊢
          clear hb3 hca cW
          go_wp2_with fail
          obtain ⟨w4, hw4, bel4, c4, z4, _⟩ := cel_new2 w3 ca _ rfl
          rw [hw4]
          obtain ⟨D, hD⟩ : ∃ D, w3.heap.size = D := ⟨_, rfl⟩
          rw [hD] at c4 z4
          try rw [hD]
          have H4 : Hid (Below wr.heap.size wr w4 ∧ CelAt w4 D 0 ca) := ⟨H3.out.trans (bel4.mono H3.out.size), c4⟩
          clear hw4 bel4 c4 hD
          go_at_call 11
          refine (kCell HD.out.2.1 HD.out.2.2.1 w4 (HD.out.1.below (HW.out.trans (H4.out.1.mono HW.out.size))) r HD.out.2.2.2.1 HD.out.2.2.2.2.1 x y (by rw [HD.out.2.2.2.2.2.1]; exact Hyx.out.2) (by rw [HD.out.2.2.2.2.2.2]; exact Hyx.out.1)).mono ?_
          rintro e w5 ⟨rfl, hb5⟩
          have hcb : picP L K r (x : Int) (y : Int) = P x y := congrFun (congrFun HP.out x) y
          rw [hcb]
          have H5 : Hid (Below wr.heap.size wr w5 ∧ CelAt w5 D 0 ca) := ⟨H4.out.1.trans (hb5.mono H4.out.1.size), H4.out.2.below hb5 H4.out.2.lt⟩
          have z5 : D < w5.heap.size := by have := hb5.size; omega
          clear hb5 hcb H4 z4
          go_upto_region 11 with fail
          obtain ⟨w6, hw6, bel6, c6, z6, _⟩ := cel_new2 w5 (P x y) _ rfl
          rw [hw6]
          obtain ⟨E, hE⟩ : ∃ E, w5.heap.size = E := ⟨_, rfl⟩
          rw [hE] at c6 z6
          try rw [hE]
          have H6 : Hid (Below wA.heap.size wA w6) := HBi.out.trans ((H5.out.1.trans (bel6.mono H5.out.1.size)).mono HBi.out.size)
          obtain ⟨p0, p1, p2, p3, p4, p5, p6⟩ := H5.out.2.below bel6 z5
          obtain ⟨q0, q1, q2, q3, q4, q5, q6⟩ := c6
          simp only [Nat.zero_add] at p0 p1 p2 p3 p4 p5 p6 q0 q1 q2 q3 q4 q5 q6
          have hne := fun w => cel_neq ca (P x y) w
          clear hw6 bel6 hE H5 z6 z5
          cases hq : ca.eqB (P x y) with
          | true =>
            have Hq : Hid (ca.eqB (P x y) = true) := hq
            simp only [hq, Bool.not_true] at hne
            clear hq
            go_wp2_with fail
            go_roundw
            case rel => exact ⟨x + 1, by go_num, by have := Hyx.out.2; omega, by rw [Hnx.out, Hq.out]; rfl, H6.out⟩
            case measure => simp [intOf]; have := Hyx.out.2; omega
          | false =>
            have Hq : Hid (ca.eqB (P x y) = false) := hq
            simp only [hq, Bool.not_false] at hne
            clear hq
            go_wp2_with fail
            go_roundw
            case rel => exact ⟨x + 1, by go_num, by have := Hyx.out.2; omega, by rw [Hnx.out, Hq.out]; rfl, H6.out⟩
            case measure => simp [intOf]; have := Hyx.out.2; omega
        · have hxc' : ¬ ((x : Int) < (s.W : Int)) := by omega
          have ex : x = s.W := by omega
          have Hex : Hid (x = s.W) := ex
          have Hy : Hid (y < s.H) := hc
          clear ex
          go_wp2_with fail
          go_roundw
          case rel => exact ⟨y + 1, by go_num, by have := Hy.out; omega, by rw [Hex.out, Nat.succ_mul], HBi.out⟩
          case measure => simp [intOf]; have := Hy.out; omega
    · have hc' : ¬ ((y : Int) < (s.H : Int)) := by omega
      have ey : y = s.H := by omega
      have Hey : Hid (y = s.H) := ey
      clear ey
      go_wp2_with fail
      go_ret
      exact ⟨by rw [Hey.out]; rfl, HA.out.1.trans (HB.out.mono HA.out.1.size)⟩
end Go.Proofs.YtjlfibhbfdckpaaGreatDoor

/- The statement of what is shown: a screen beside a desk. -/
namespace Go.Proofs.YtjlfibhbfdckpaaGreatDoor
open Go.RowKit
theorem txResizeYes {L : List Wn} {last : Int} (ok : DOk L last) (x y : Nat) (hz : sizeB x y = true) : ∃ L', Tx 18 (fun q => #[.pointer q, .int .i64 x, .int .i64 y]) L last L' last (.int .i64 0) 0 (fun s => resizeR s x y) := by
  obtain ⟨rk, K, T⟩ := ok.tree
  obtain ⟨a1, a2, a3, a4⟩ := sizeB_iff.1 hz
  obtain ⟨r, t', e, h0, h1, h2⟩ := T.head
  have hr : r ∈ L := by rw [e]; exact List.mem_cons_self
  refine ⟨_, ⟨ok_updL (n := r.n) (f := fun u => { u with W := x, H := y, G := sizedG r.W r.H x r.G }) ok (fun _ _ e => e) (fun _ _ _ => rfl) (fun u hu _ => ok.pl u hu), ⟨Int.le_refl _, by omega⟩, fun p => p.upd _ (fun u hu _ => (p r hr).sized x y), fun s h => ?_, fun s h => resizeR_fl h (by omega) (by omega) (by omega) (by omega), fun s h => resizeR_ok h (by omega) (by omega) (by omega) (by omega), fun h => absurd rfl h, fun w M N s t hs h => kResize ok w h hs r hr h0 x y hz⟩⟩
  intro v hv hv0
  unfold updL at hv
  obtain ⟨u, hu, rfl⟩ := List.mem_map.1 hv
  split at hv0
  · rename_i eu
    rw [if_pos eu]
    exact ⟨rfl, rfl⟩
  · rename_i eu
    exact absurd (hv0.trans h0.symm) eu
/-- A desk and a screen beside one another; block bx is no part of them. -/
structure V2 (w0 : World) (pc da bx : Nat) (L : List Wn) (n : Int) (s q : Rs) (w : World) : Prop where
  ex : ∃ M N t bs bg g Nc, M.t 0 = da ∧ DkAt w M L n N s t ∧ Tie s.B t ∧ CsAt w pc bs bg g Nc q ∧ (∀ i, M.own L i → ¬ (i = pc ∨ i = bs ∨ i = bg ∨ i = g)) ∧ (∀ i, M.own L i → w0.heap.size ≤ i ∧ i ≠ bx) ∧ (w0.heap.size ≤ pc ∧ w0.heap.size ≤ bs ∧ w0.heap.size ≤ bg ∧ w0.heap.size ≤ g) ∧ (pc ≠ bx ∧ bs ≠ bx ∧ bg ≠ bx ∧ g ≠ bx)
  bel : Below w0.heap.size w0 w
  tab : Tabs w0
  lt : bx < w.heap.size
section
variable {w0 w w' : World} {pc da bx : Nat} {L : List Wn} {n : Int} {s q : Rs}
theorem V2.below (h : V2 w0 pc da bx L n s q w) (hb : Below w.heap.size w w') : V2 w0 pc da bx L n s q w' := by
  obtain ⟨⟨M, N, t, bs, bg, g, Nc, e, D, tie, C, dj, od, o1, o2⟩, b, tb, lt⟩ := h
  exact ⟨⟨M, N, t, bs, bg, g, Nc, e, D.below hb, tie, C.below hb, dj, od, o1, o2⟩, b.trans (hb.mono b.size), tb, Nat.lt_of_lt_of_le lt hb.size⟩
/-- Another block, a new one, is no part of them either. -/
theorem V2.rebase (h : V2 w0 pc da bx L n s q w) (hb : Below w.heap.size w w') (hl : w.heap.size < w'.heap.size) : V2 w0 pc da w.heap.size L n s q w' := by
  obtain ⟨⟨M, N, t, bs, bg, g, Nc, e, D, tie, C, dj, od, o1, o2⟩, b, tb, lt⟩ := h
  obtain ⟨tq, Pq, _⟩ := C.pr
  have l0 := C.lt
  have l1 := Pq.lt
  have l2 := Pq.gr.lt
  have l3 := Pq.gr.glt
  exact ⟨⟨M, N, t, bs, bg, g, Nc, e, D.below hb, tie, C.below hb, dj, fun i hi => ⟨(od i hi).1, by have := D.lt hi; omega⟩, o1, by omega, by omega, by omega, by omega⟩, b.trans (hb.mono b.size), tb, hl⟩
theorem V2.zero (h : V2 w0 pc da bx L n s q w) : V2 w0 pc da 0 L n s q w := by
  obtain ⟨⟨M, N, t, bs, bg, g, Nc, e, D, tie, C, dj, od, o1, o2⟩, b, tb, lt⟩ := h
  have h2 : 1 < w0.heap.size := World.block_lt_of_cell? _ _ (tb.2 0 (by omega)).1
  exact ⟨⟨M, N, t, bs, bg, g, Nc, e, D, tie, C, dj, fun i hi => ⟨(od i hi).1, by have := (od i hi).1; omega⟩, o1, by omega, by omega, by omega, by omega⟩, b, tb, by omega⟩
theorem V2.desk {f : Nat} {a : Option Addr → Array Value} {L' : List Wn} {n' : Int} {s' : Rs} {r : Value} (h : V2 w0 pc da bx L n s q w)
    (hx : ∀ (M : Mm) (N : Nat) (t : Pt), Tie s.B t → DkAt w M L n N s t → Tabs w → Calls Tryz.prog f (a (some ⟨M.t 0, 0, none⟩)) w fun e w' => ∃ t', Tie s'.B t' ∧ DPostG M L L' n' s' t' w r e w') :
    Calls Tryz.prog f (a (some ⟨da, 0, none⟩)) w fun e w' => e = .returned r ∧ V2 w0 pc da bx L' n' s' q w' ∧ w'.heap[bx]? = w.heap[bx]? := by
  obtain ⟨⟨M, N, t, bs, bg, g, Nc, rfl, D, tie, C, dj, od, o1, o2⟩, b, tb, lt⟩ := h
  refine (hx M N t tie D (tb.below b)).mono ?_
  rintro e w' ⟨t', tie', M', N', rfl, D', ht, K, O⟩
  have sz := b.size
  obtain ⟨tq, Pq, _⟩ := C.pr
  have l0 := C.lt
  have l1 := Pq.lt
  have l2 := Pq.gr.lt
  have l3 := Pq.gr.glt
  refine ⟨rfl, ⟨⟨M', N', t', bs, bg, g, Nc, ht, D', tie', C.keep K (fun q => dj _ q (.inl rfl)) (fun q => dj _ q (.inr (.inl rfl))) (fun q => dj _ q (.inr (.inr (.inl rfl)))) (fun q => dj _ q (.inr (.inr (.inr rfl)))), fun i hi hq => ?_, fun i hi => ?_, o1, o2⟩, b.trans (K.toBelow sz (fun i hi q => by have := (od i q).1; omega)), tb, Nat.lt_of_lt_of_le lt K.size⟩, K.block bx lt (fun q => (od _ q).2 rfl)⟩
  · rcases O i hi with e | e
    · exact dj i e hq
    · rcases hq with e' | e' | e' | e' <;> omega
  · rcases O i hi with e | e
    · exact od i e
    · omega
theorem V2.scr {f : Nat} {a : Option Addr → Array Value} {q' : Rs} {r : Value} (h : V2 w0 pc da bx L n s q w)
    (hx : ∀ (bs bg g Nc : Nat), CsAt w pc bs bg g Nc q → Tabs w → Calls Tryz.prog f (a (some ⟨pc, 0, none⟩)) w (CPost pc bs bg g w q' r)) :
    Calls Tryz.prog f (a (some ⟨pc, 0, none⟩)) w fun e w' => e = .returned r ∧ V2 w0 pc da bx L n s q' w' := by
  obtain ⟨⟨M, N, t, bs, bg, g, Nc, e, D, tie, C, dj, od, o1, o2⟩, b, tb, lt⟩ := h
  refine (hx bs bg g Nc C (tb.below b)).mono ?_
  rintro e w' ⟨g', N', rfl, C', K, hg⟩
  have sz := b.size
  refine ⟨rfl, ⟨⟨M, N, t, bs, bg, g', N', by assumption, D.keepK K (fun i hi hq => dj i hi (.inr hq)), tie, C', fun i hi hq => ?_, od, ?_, ?_⟩, b.trans (K.toBelow sz (fun i hi q => by omega)), tb, Nat.lt_of_lt_of_le lt K.size⟩⟩
  · rcases hq with e | e | e | e
    · exact dj i hi (.inl e)
    · exact dj i hi (.inr (.inl e))
    · exact dj i hi (.inr (.inr (.inl e)))
    · rcases hg with e' | e'
      · exact dj i hi (.inr (.inr (.inr (by rw [e, e']))))
      · have := D.lt hi; omega
  · rcases hg with e' | e' <;> omega
  · rcases hg with e' | e' <;> omega
theorem V2.shows {rk : Int → Nat} {K : Nat} (h : V2 w0 pc da bx L n s q w) (T : Tree L rk K) (ok : DOk L n) {r : Wn} (hr : r ∈ L) (hr0 : r.n = 0) (eW : r.W = q.W) (eH : r.H = q.H) (P : Nat → Nat → Cel) (hP : (fun x y : Nat => picP L K r x y) = P) :
    Calls Tryz.prog 20 #[.pointer (some ⟨pc, 0, none⟩), .pointer (some ⟨da, 0, none⟩)] w fun e w' => e = .returned (.int .i64 (cntB (shB q P) (q.H * q.W) : Nat)) ∧ V2 w0 pc da bx L n s q w' ∧ w'.heap[bx]? = w.heap[bx]? := by
  obtain ⟨M, N, t, bs, bg, g, Nc, rfl, D, tie, C, _⟩ := h.ex
  exact (kShows pc bs bg g Nc q w C T ok D r hr hr0 eW eH P hP).mono (fun e w' ⟨a, b⟩ => ⟨a, h.below b, b.block bx h.lt⟩)
theorem V2.flush {rk : Int → Nat} {K : Nat} (h : V2 w0 pc da bx L n s q w) (T : Tree L rk K) (ok : DOk L n) (f : FlOk L s) {r : Wn} (hr : r ∈ L) (hr0 : r.n = 0) (b : List UInt8) (hb : bytesL s (fun x y => picP L K r x y) = b) :
    Calls Tryz.prog 21 #[.pointer (some ⟨da, 0, none⟩)] w fun e w' => e = .returned (bstr b) ∧ V2 w0 pc da bx L n (feedR s b) q w' ∧ w'.heap[bx]? = w.heap[bx]? :=
  h.desk (a := fun p => #[.pointer p]) (fun _ _ _ tie D tab => kFlush T ok w D tie f tab r hr hr0 b hb)
theorem V2.feed (h : V2 w0 pc da bx L n s q w) (b : List UInt8) (hb : b.length ≤ 100000) :
    Calls Tryz.prog 22 #[.pointer (some ⟨pc, 0, none⟩), bstr b] w fun e w' => e = .returned (.tuple #[]) ∧ V2 w0 pc da bx L n s (feedR q b) w' :=
  h.scr (a := fun p => #[.pointer p, bstr b]) (fun bs bg g Nc C tab => by
    have := cFeed pc bs bg g Nc q ⟨b.toArray⟩ w C tab (by show b.length ≤ _; omega)
    have e2 : feedR q (⟨b.toArray⟩ : ByteArray).data.toList = feedR q b := by simp
    rw [e2] at this
    exact this)
theorem V2.state (h : V2 w0 pc da bx L n s q w) :
    Calls Tryz.prog 23 #[.pointer (some ⟨pc, 0, none⟩)] w fun e w' => e = .returned (stAgg q.W q.H q.x q.y q.pend q.pen q.top q.bot (groundB q)) ∧ V2 w0 pc da bx L n s q w' := by
  obtain ⟨M, N, t, bs, bg, g, Nc, rfl, D, tie, C, _⟩ := h.ex
  exact (cState pc bs bg g Nc q w C).mono (fun e w' ⟨a, b⟩ => ⟨a, h.below b⟩)
end
/-- What Flush has told, and what it tells then. -/
structure Flushed (L : List Wn) (s : Rs) (P : Nat → Nat → Cel) (b : List UInt8) (kn : Nat) : Prop where
  flok : FlOk L (feedR s b)
  few : b.length ≤ 64 * kn + 16
  kn8 : kn ≤ 800
  none : kn = 0 → b = []
  left : cntB (shB (feedR s b) P) ((feedR s b).H * (feedR s b).W) = 0
  again : bytesL (feedR s b) P = []
  top : (feedR s b).top = 0
  bot : (feedR s b).bot = ((feedR s b).H : Int) - 1
  ground : groundB (feedR s b) = true
theorem flushed {w : World} {M : Mm} {L : List Wn} {last : Int} {N : Nat} {s : Rs} {t : Pt} {rk : Int → Nat} {K : Nat} (f : FlOk L s) (T : Tree L rk K) (h : DkAt w M L last N s t) {r : Wn} (hr : r ∈ L) (hr0 : r.n = 0) (P : Nat → Nat → Cel) (hP : (fun x y : Nat => picP L K r x y) = P) (b : List UInt8) (hb : bytesL s P = b) (kn : Nat) (hk : cntB (shB s P) (s.H * s.W) = kn) : Flushed L s P b kn := by
  have hp := f.pic T h hr hr0
  rw [hP] at hp
  have hq := bytes_ok f.fl hp
  rw [hb] at hq
  have hk' : othersN s P 0 = kn := by rw [others_zero f.fl]; exact hk
  have f' : FlOk L (feedR s b) := f.flush T h hr hr0 (by rw [hP]; exact hb)
  have hp' : PicOk (feedR s b).W (feedR s b).H P := by rw [hq.re.W, hq.re.H]; exact hp
  have hz : cntB (shB (feedR s b) P) ((feedR s b).H * (feedR s b).W) = 0 := by
    have w1 := f'.fl.ok.w1
    have key : ∀ m, m ≤ (feedR s b).H * (feedR s b).W → cntB (shB (feedR s b) P) m = 0 := by
      intro m
      induction m with
      | zero => intro _; rfl
      | succ m ih =>
        intro hm
        rw [cnt_succ, ih (by omega)]
        have hx : m % (feedR s b).W < (feedR s b).W := Nat.mod_lt _ (by omega)
        have hy : m / (feedR s b).W < (feedR s b).H := (Nat.div_lt_iff_lt_mul (by omega)).2 (by omega)
        have he := hq.re.eq (m % (feedR s b).W) (m / (feedR s b).W) (by rw [← hq.re.W]; exact hx) (by rw [← hq.re.H]; exact hy)
        have : shB (feedR s b) P m = false := by
          unfold shB differsB
          rw [he, Cel.eqB_iff.2 rfl]
          rfl
        rw [this]
        rfl
    exact key _ (Nat.le_refl _)
  refine ⟨f', by rw [← hk']; exact hq.few, ?_, fun e => hq.none (by rw [hk', e]), hz, (bytes_ok f'.fl hp').none (by rw [others_zero f'.fl]; exact hz), f'.fl.top, f'.fl.bot, ?_⟩
  · have h1 := cnt_le (shB s P) (s.H * s.W)
    have h2 : s.H * s.W ≤ 20 * 40 := Nat.mul_le_mul f.fl.ok.h2 f.fl.ok.w2
    omega
  · have tq : Tie (feedR s b).B newT := by rw [f'.fl.B]; exact tie0 rfl rfl
    rw [← tie_ground tq]
    rfl
end Go.Proofs.YtjlfibhbfdckpaaGreatDoor
