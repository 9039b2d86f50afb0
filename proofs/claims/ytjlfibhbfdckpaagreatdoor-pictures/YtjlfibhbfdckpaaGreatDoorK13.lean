/- Texts of the proof, one behind the other: DkN, DkE, Dk3. -/
import Derived.Test.YtjlfibhbfdckpaaGreatDoorK10
import Derived.Test.YtjlfibhbfdckpaaGreatDoorK12
/- The program's desk: New, NewDesk. -/
namespace Go.Proofs.YtjlfibhbfdckpaaGreatDoor
open Go.RowKit
attribute [local go_sem ↓] Go.wp_at_zero Go.wp_at_succ
/-- The root alone. -/
def rootW (W H : Nat) : Wn := ⟨0, -1, 0, 0, true, W, H, fun _ _ => blk Pn.plain⟩
theorem kids_root (W H : Nat) : kids [rootW W H] 0 = [] := by simp [kids, rootW]
theorem ok_root (W H : Nat) : DOk [rootW W H] 0 :=
  ⟨⟨fun _ => 0, 0, ⟨rootW W H, [], rfl, rfl, rfl, by simp⟩, by simp, by simp [rootW], by simp⟩, by simp [rootW], by simp, by simp [rootW]⟩
theorem ownsRow_none (w : World) (base : Nat) (e : TypeId) : w.ownsRow base e 1 (.slice none 0 0) 0 [] := World.ownsRow_nil _ _ _ _
/-- Where the desk lies that has the root alone. -/
def mRoot (p d sb sg sc b c g : Nat) : Mm := ⟨fun k => if k = 0 then p else if k = 1 then d else if k = 2 then sb else if k = 3 then sg else sc, fun _ => b, fun _ => c, fun _ => g, fun _ => .slice none 0 0⟩
theorem root_blk (W H a d sb sg sc b c g : Nat) (p : Pl) (i : Nat) (hp : p.ok [rootW W H]) (e : (mRoot a d sb sg sc b c g).blk p = some i) : (p = .top 0 ∧ i = a) ∨ (p = .top 1 ∧ i = d) ∨ (p = .top 2 ∧ i = sb) ∨ (p = .top 3 ∧ i = sg) ∨ (p = .top 4 ∧ i = sc) ∨ (p = .win 0 0 ∧ i = b) ∨ (p = .win 0 1 ∧ i = c) ∨ (p = .win 0 2 ∧ i = g) := by
  cases p with
  | top k =>
    have hk : k < 5 := hp
    match k, hk with
    | 0, _ => simp [Mm.blk, mRoot] at e; simp [e]
    | 1, _ => simp [Mm.blk, mRoot] at e; simp [e]
    | 2, _ => simp [Mm.blk, mRoot] at e; simp [e]
    | 3, _ => simp [Mm.blk, mRoot] at e; simp [e]
    | 4, _ => simp [Mm.blk, mRoot] at e; simp [e]
  | win n k =>
    obtain ⟨hk, v, hv, hn⟩ := hp
    obtain rfl : v = rootW W H := by simpa using hv
    obtain rfl : 0 = n := hn
    match k, hk with
    | 0, _ => simp [Mm.blk, mRoot] at e; simp [e]
    | 1, _ => simp [Mm.blk, mRoot] at e; simp [e]
    | 2, _ => simp [Mm.blk, mRoot] at e; simp [e]
    | 3, _ => simp [Mm.blk, mRoot, Value.ownBlock] at e
set_option maxHeartbeats 1000000 in
theorem kNew (W H : Nat) (w : World) (w1 : 1 ≤ W) (w2 : W ≤ 40) (h1 : 1 ≤ H) (h2 : H ≤ 20) (_hw : 2 ≤ w.heap.size) :
    Calls Tryz.prog 15 #[.int .i64 W, .int .i64 H] w fun e w' => ∃ M, e = .returned (.tuple #[.pointer (some ⟨M.t 0, 0, none⟩), .int .i64 0]) ∧ DkAt w' M [rootW W H] 0 (H * W) (newR W H) newT ∧ Below w.heap.size w w' ∧ ∀ i, M.own [rootW W H] i → w.heap.size ≤ i := by
  have hs : sizeB W H = true := sizeB_iff.2 (by omega)
  have hnew : Hid (Calls Tryz.prog 47 #[.int .i64 W, .int .i64 H] w fun e w' => ∃ d sb sg sc b c g, e = .returned (.pointer (some ⟨d, 0, none⟩)) ∧ w'.heap[d]? = some (.cells #[.pointer (some ⟨b, 0, none⟩), .int .i64 0, .pointer (some ⟨sb, 0, none⟩)] 133) ∧ w'.heap[b]? = some (.cells (winArr (rootW W H) none c (.slice none 0 0)) 131) ∧ GrAt w' c g W H (H * W) (fun _ _ => blk Pn.plain) ∧ PrAt w' sb sg sc (H * W) (newR W H) newT ∧ Below w.heap.size w w' ∧ w.heap.size ≤ c ∧ w.heap.size ≤ g ∧ w.heap.size ≤ b ∧ c < b ∧ g < b ∧ b < sb ∧ b < sg ∧ b < sc ∧ sb < d ∧ sg < d ∧ sc < d) := by
    show Calls _ _ _ _ _
    clear hs
    go_enter Tryz.func47, Tryz.ntmps47
    go_wp2_with fail
    go_at_call 108
    refine (pNew W H _ w1 w2 h1 h2).mono ?_
    rintro e wa ⟨c, g, rfl, G1, b1, lc, lg⟩
    have HG1 : Hid (GrAt wa c g W H (H * W) (fun _ _ => blk Pn.plain)) := G1
    have HB1 : Hid (Below w.heap.size w wa) := b1
    have gl := G1.lt
    have ggl := G1.glt
    clear G1 b1
    go_wp2_with fail
    have hbl : Below wa.heap.size wa (wa.alloc (.cells (winArr (rootW W H) none c (.slice none 0 0)) 131)) := (Below.refl _ _).alloc (Nat.le_refl _) _
    have HW : Hid ((wa.alloc (.cells (winArr (rootW W H) none c (.slice none 0 0)) 131)).heap[wa.heap.size]? = some (.cells (winArr (rootW W H) none c (.slice none 0 0)) 131)) := heap_new wa _
    have HG2 : Hid (GrAt (wa.alloc (.cells (winArr (rootW W H) none c (.slice none 0 0)) 131)) c g W H (H * W) (fun _ _ => blk Pn.plain)) := HG1.out.below hbl
    have HB2 : Hid (Below w.heap.size w (wa.alloc (.cells (winArr (rootW W H) none c (.slice none 0 0)) 131))) := HB1.out.trans (hbl.mono HB1.out.size)
    have s2 : (wa.alloc (.cells (winArr (rootW W H) none c (.slice none 0 0)) 131)).heap.size = wa.heap.size + 1 := by simp
    change Calls _ _ _ (wa.alloc (.cells (winArr (rootW W H) none c (.slice none 0 0)) 131)) _
    generalize wa.alloc (.cells (winArr (rootW W H) none c (.slice none 0 0)) 131) = wb at *
    clear HG1 hbl
    go_at_call 106
    refine (sNew W H _ w1 w2 h1 h2).mono ?_
    rintro e wc ⟨sb, sg, sc, rfl, P1, b1, l1, l2, l3⟩
    have HP : Hid (PrAt wc sb sg sc (H * W) (newR W H) newT) := P1
    have p1 := P1.lt
    have p2 := P1.gr.lt
    have p3 := P1.gr.glt
    have HB3 : Hid (Below wb.heap.size wb wc) := b1
    clear P1 b1
    go_wp2_with fail
    go_ret
    have hz := HB1.out.size
    have hbk : Below wc.heap.size wc (wc.alloc (.cells #[.pointer (some ⟨wa.heap.size, 0, none⟩), .int .i64 0, .pointer (some ⟨sb, 0, none⟩)] 133)) := (Below.refl _ _).alloc (Nat.le_refl _) _
    have hbc : Below wb.heap.size wb (wc.alloc (.cells #[.pointer (some ⟨wa.heap.size, 0, none⟩), .int .i64 0, .pointer (some ⟨sb, 0, none⟩)] 133)) := HB3.out.trans (hbk.mono HB3.out.size)
    refine ⟨wc.heap.size, sb, sg, sc, wa.heap.size, c, g, rfl, heap_new wc _, by rw [hbc.block _ (by omega)]; exact HW.out, HG2.out.below hbc, HP.out.below hbk, HB2.out.trans (hbc.mono HB2.out.size), lc, lg, by omega, gl, ggl, by omega, by omega, by omega, p1, p2, p3⟩
  go_enter Tryz.func15, Tryz.ntmps15
  go_wp2_with (first | (go_at_call 46; refine (pMayBe _ _ _).mono ?_; rintro e w' ⟨rfl, hw'⟩; replace hw' := hw'.symm; subst hw'))
  go_at_call 47
  refine hnew.out.mono ?_
  rintro e wa ⟨d, sb, sg, sc, b, c, g, rfl, q1, q2, q3, q4, q5, l1, l2, l3, l4, l5, l6, l7, l8, l9, l10, l11⟩
  have H1 : Hid (wa.heap[d]? = some (.cells #[.pointer (some ⟨b, 0, none⟩), .int .i64 0, .pointer (some ⟨sb, 0, none⟩)] 133)) := q1
  have H2 : Hid (wa.heap[b]? = some (.cells (winArr (rootW W H) none c (.slice none 0 0)) 131)) := q2
  have H3 : Hid (GrAt wa c g W H (H * W) (fun _ _ => blk Pn.plain)) := q3
  have H4 : Hid (PrAt wa sb sg sc (H * W) (newR W H) newT) := q4
  have H5 : Hid (Below w.heap.size w wa) := q5
  have dl : d < wa.heap.size := (Array.getElem?_eq_some_iff.1 q1).1
  clear q1 q2 q3 q4 q5
  go_wp2_with fail
  go_ret2
  have hbk : Below wa.heap.size wa (wa.alloc (.cells #[.pointer (some ⟨d, 0, none⟩)] 75)) := (Below.refl _ _).alloc (Nat.le_refl _) _
  have hz := H5.out.size
  have hgn : c ≠ g := H3.out.ne
  have hsn : sg ≠ sc := H4.out.gr.ne
  have hs1 := H4.out.ne1
  have hs2 := H4.out.ne2
  refine ⟨mRoot wa.heap.size d sb sg sc b c g, rfl, ⟨heap_new wa _, ?_, H4.out.below hbk, ?_, ?_, ?_⟩, H5.out.trans (hbk.mono hz), ?_⟩
  · exact (hbk.block _ dl).trans H1.out
  · intro v hv
    obtain rfl : v = rootW W H := by simpa using hv
    refine ⟨?_, H3.out.below hbk, wf_plain _ _, ?_⟩
    · exact (hbk.block _ (by show b < _; omega)).trans H2.out
    · show World.ownsRow _ _ _ _ _ _ (Mm.ptrs _ (kids [rootW W H] 0))
      rw [kids_root]
      exact World.ownsRow_nil _ _ _ _
  · have hb : ∀ (p : Pl) (i : Nat), p.ok [rootW W H] → (mRoot wa.heap.size d sb sg sc b c g).blk p = some i → (p = .top 0 ∧ i = wa.heap.size) ∨ (p = .top 1 ∧ i = d) ∨ (p = .top 2 ∧ i = sb) ∨ (p = .top 3 ∧ i = sg) ∨ (p = .top 4 ∧ i = sc) ∨ (p = .win 0 0 ∧ i = b) ∨ (p = .win 0 1 ∧ i = c) ∨ (p = .win 0 2 ∧ i = g) := root_blk _ _ _ _ _ _ _ _ _ _
    intro p q i hp hq e1 e2
    rcases hb p i hp e1 with ⟨rfl, r1⟩ | ⟨rfl, r1⟩ | ⟨rfl, r1⟩ | ⟨rfl, r1⟩ | ⟨rfl, r1⟩ | ⟨rfl, r1⟩ | ⟨rfl, r1⟩ | ⟨rfl, r1⟩ <;>
      rcases hb q i hq e2 with ⟨rfl, r2⟩ | ⟨rfl, r2⟩ | ⟨rfl, r2⟩ | ⟨rfl, r2⟩ | ⟨rfl, r2⟩ | ⟨rfl, r2⟩ | ⟨rfl, r2⟩ | ⟨rfl, r2⟩ <;> first | rfl | (exfalso; omega)
  · rintro i ⟨p, hp, e⟩
    rcases root_blk _ _ _ _ _ _ _ _ _ _ p i hp e with ⟨_, r1⟩ | ⟨_, r1⟩ | ⟨_, r1⟩ | ⟨_, r1⟩ | ⟨_, r1⟩ | ⟨_, r1⟩ | ⟨_, r1⟩ | ⟨_, r1⟩ <;> omega
  · rintro i ⟨p, hp, e⟩
    rcases root_blk _ _ _ _ _ _ _ _ _ _ p i hp e with ⟨_, r1⟩ | ⟨_, r1⟩ | ⟨_, r1⟩ | ⟨_, r1⟩ | ⟨_, r1⟩ | ⟨_, r1⟩ | ⟨_, r1⟩ | ⟨_, r1⟩ <;> omega
theorem kNewNo (x y : Int) (w : World) (hs : sizeB x y = false) :
    Calls Tryz.prog 15 #[.int .i64 x, .int .i64 y] w fun e w' => e = .returned (.tuple #[.pointer none, .int .i64 3]) ∧ w' = w := by
  go_enter Tryz.func15, Tryz.ntmps15
  go_wp2_with (first | (go_at_call 46; refine (pMayBe _ _ _).mono ?_; rintro e w' ⟨rfl, hw'⟩; replace hw' := hw'.symm; subst hw'))
  go_ret2
  exact ⟨rfl, rfl⟩
end Go.Proofs.YtjlfibhbfdckpaaGreatDoor

/- The program's desk: enter. -/
namespace Go.Proofs.YtjlfibhbfdckpaaGreatDoor
open Go.RowKit
attribute [local go_sem ↓] Go.wp_at_zero Go.wp_at_succ
theorem ptrInfo : (Tryz.prog.info? 111).map (fun i => (i.zero, i.size, i.bytes)) = some (some (.pointer none), 1, 8) := by kernel_rfl
theorem list_append_ptr {ops : Array Oper} {rest : List Oper} {o : Oper} {a : Act} {Q : Exit → Act → World → Prop} (w : World) (hgd : o.guard = none) (s x : Operand)
    (ho : o.op = .call { callee := .builtin .append, args := #[s, x], argTypes := #[129, 129] }) (v : Value) (ks : List Value) (u : Value) (k : Nat) (hk : ks.length = k) (hs : a.eval s = v)
    (hown : w.ownsRow 2 111 1 v k ks) (b : Nat) (hx : a.eval x = .slice (some ⟨b, 0, none⟩) 1 1) (hb : w.heap[b]? = some (.cells #[u] 111)) (hu : u.oneCell' = true) (hL : k ≤ 1000) (hbase : 2 ≤ w.heap.size)
    (h : ∀ g cap w', w'.ownsRow 2 111 1 (.slice (some ⟨g, 0, none⟩) (k + 1) cap) (k + 1) (ks ++ [u]) → w.grownBy w' v.ownBlock → (v.ownBlock = some g ∨ g = w.heap.size) → g < w'.heap.size → wpList Tryz.prog ops Q rest (a.put o.dst (.slice (some ⟨g, 0, none⟩) (k + 1) cap)) w') :
    wpList Tryz.prog ops Q (o :: rest) a w := by
  obtain ⟨ti, i1, i2, i3, i4⟩ := info_parts ptrInfo
  exact wpList_append_lies w hgd s x 129 ho 2 111 ti _ 1 8 Tryz.underlying129 i1 i2 i3 i4 rfl (by decide) v k ks hs hown ⟨b, 0, none⟩ 1 1 [u] hx rfl (World.news_of_block hb) (by simpa using hu) (by decide) (by unfold maxLen; omega) (by omega) hbase w.heap.size rfl h
theorem set_block {w : World} {b o : Nat} {C : Array Value} {t : TypeId} (h : w.heap[b]? = some (.cells C t)) (v : Value) : (w.setCell ⟨b, o, none⟩ v).heap[b]? = some (.cells (C.setIfInBounds o v) t) := heap_set_same h o v
set_option maxHeartbeats 1000000 in
theorem wEnter (u v : Wn) (bu bv cu cv : Nat) (pu pv : Option Addr) (su sv : Value) (ks : List Value) (w : World) (hU : w.heap[bu]? = some (.cells (winArr u pu cu su) 131)) (hV : w.heap[bv]? = some (.cells (winArr v pv cv sv) 131)) (hrow : w.ownsRow 2 111 1 sv ks.length ks) (hne : bu ≠ bv) (hsu : sv.ownBlock ≠ some bu) (hsv : sv.ownBlock ≠ some bv) (hk : ks.length ≤ 100) (_h2 : 2 ≤ w.heap.size) :
    Calls Tryz.prog 150 #[.pointer (some ⟨bu, 0, none⟩), .pointer (some ⟨bv, 0, none⟩)] w fun e w' => ∃ g cap, e = .returned (.tuple #[]) ∧ w'.heap[bu]? = some (.cells (winArr u (some ⟨bv, 0, none⟩) cu su) 131) ∧ w'.heap[bv]? = some (.cells (winArr v pv cv (.slice (some ⟨g, 0, none⟩) (ks.length + 1) cap)) 131) ∧
      w'.ownsRow 2 111 1 (.slice (some ⟨g, 0, none⟩) (ks.length + 1) cap) (ks.length + 1) (ks ++ [.pointer (some ⟨bu, 0, none⟩)]) ∧ Keep (fun i => i = bu ∨ i = bv ∨ sv.ownBlock = some i) w w' ∧ (sv.ownBlock = some g ∨ w.heap.size ≤ g) := by
  have lu : bu < w.heap.size := (Array.getElem?_eq_some_iff.1 hU).1
  have lv : bv < w.heap.size := (Array.getElem?_eq_some_iff.1 hV).1
  have c1 : w.cell? ⟨bu, 1, none⟩ = some (.pointer pu) := cell_of_block hU 1
  have z1 := frozen_of_block hU
  have HU : Hid (w.heap[bu]? = some (.cells (winArr u pu cu su) 131)) := hU
  have HV : Hid (w.heap[bv]? = some (.cells (winArr v pv cv sv) 131)) := hV
  have Hrow : Hid (w.ownsRow 2 111 1 sv ks.length ks) := hrow
  clear hU hV hrow
  have c6 : (w.setCell ⟨bu, 1, none⟩ (.pointer (some ⟨bv, 0, none⟩))).cell? ⟨bv, 6, none⟩ = some sv := by
    rw [World.cell?_setCell_other _ _ _ _ (by intro e; injection e with e1; exact hne e1)]; exact cell_of_block HV.out 6
  have Hr1 : Hid ((w.setCell ⟨bu, 1, none⟩ (.pointer (some ⟨bv, 0, none⟩))).ownsRow 2 111 1 sv ks.length ks) := ownsRow_same Hrow.out (fun i hi => Below.heap_setCell _ _ _ _ (fun e => hsu (by rw [hi, e])))
  have K1 : Keep (fun i => i = bu ∨ i = bv ∨ sv.ownBlock = some i) w (w.setCell ⟨bu, 1, none⟩ (.pointer (some ⟨bv, 0, none⟩))) := (Keep.refl _ w).setCell _ _ (fun _ => Or.inl rfl)
  have U1 : (w.setCell ⟨bu, 1, none⟩ (.pointer (some ⟨bv, 0, none⟩))).heap[bu]? = some (.cells (winArr u (some ⟨bv, 0, none⟩) cu su) 131) := set_block HU.out _
  have V1 : (w.setCell ⟨bu, 1, none⟩ (.pointer (some ⟨bv, 0, none⟩))).heap[bv]? = some (.cells (winArr v pv cv sv) 131) := (Below.heap_setCell _ _ _ _ (fun e => hne e.symm)).trans HV.out
  have s1 : (w.setCell ⟨bu, 1, none⟩ (.pointer (some ⟨bv, 0, none⟩))).heap.size = w.heap.size := set_size _ _ _
  go_enter Tryz.func150, Tryz.ntmps150
  go_wp2_with ((at_builtin; refine list_append_ptr _ (by rfl) (.tmp 12) (.tmp 14) (by rfl) sv ks (.pointer (some ⟨bu, 0, none⟩)) ks.length rfl (by rfl) (ownsRow_same Hr1.out (fun i hi => Below.heap_alloc _ _ _ (ownsRow_lt Hr1.out hi).1)) _ (by rfl) (heap_new' _ _ _ (by simp)) rfl (by omega) (by first | (simp; omega) | simp) ?_; intro g7 cap7 w7 hr7 hg7 ho7 hl7; have V7 : w7.heap[bv]? = some (.cells (winArr v pv cv sv) 131) := (hg7.block _ (by simp; omega) (fun e => hsv e.symm)).trans ((Below.heap_alloc _ _ _ (by omega)).trans V1); have U7 : w7.heap[bu]? = some (.cells (winArr u (some ⟨bv, 0, none⟩) cu su) 131) := (hg7.block _ (by simp; omega) (fun e => hsu e.symm)).trans ((Below.heap_alloc _ _ _ (by omega)).trans U1); have c7 : w7.cell? ⟨bv, 6, none⟩ = some sv := cell_of_block V7 6; have f7 : w7.frozen? ⟨bv, 6, none⟩ = false := frozen_of_block V7 6))
  go_end0
  have hne7 : g7 ≠ bv := by
    rcases ho7 with h | h
    · intro e; rw [e] at h; exact hsv h
    · simp at h; omega
  refine ⟨g7, cap7, rfl, ?_, set_block V7 _, ?_, ?_, ?_⟩
  · exact (Below.heap_setCell _ _ _ _ hne).trans U7
  · exact ownsRow_same hr7 (fun i hi => Below.heap_setCell _ _ _ _ (fun e => hne7 (by simp [Value.ownBlock] at hi; have e' : i = bv := e; omega)))
  · refine Keep.setCell ?_ _ _ (fun _ => Or.inr (Or.inl rfl))
    refine K1.trans ((Keep.refl (fun i => i = bu ∨ i = bv ∨ sv.ownBlock = some i) _).alloc _ |>.trans ⟨hg7.os, hg7.tape, hg7.output, hg7.size, fun k hk hF => hg7.block k hk (fun e => hF (Or.inr (Or.inr e.symm)))⟩ (fun _ _ h => h)) (fun _ _ h => h)
  · rcases ho7 with h | h
    · exact Or.inl h
    · simp at h; exact Or.inr (by omega)
end Go.Proofs.YtjlfibhbfdckpaaGreatDoor

/- Desks: a window is made: plain; and where blocks lie that are new. -/
namespace Go.Proofs.YtjlfibhbfdckpaaGreatDoor
open Go.RowKit
def updI' {α : Type} (f : Int → α) (n : Int) (a : α) : Int → α := fun m => if m = n then a else f m
theorem updI'_same {α : Type} (f : Int → α) (n : Int) (a : α) : updI' f n a n = a := if_pos rfl
theorem updI'_other {α : Type} (f : Int → α) {n m : Int} (a : α) (h : m ≠ n) : updI' f n a m = f m := if_neg h
theorem kids_append (L : List Wn) (v : Wn) (n : Int) : kids (L ++ [v]) n = kids L n ++ (if v.par = n then [v] else []) := by
  unfold kids
  rw [List.filter_append]
  congr 1
  by_cases h : v.par = n
  · simp [h]
  · simp [h]
theorem ok_create {L : List Wn} {last : Int} (ok : DOk L last) {v : Wn} (hv : v ∈ L) (hl : L.length < 16) (x y : Int) (W H : Nat) (G : Nat → Nat → Cel) (hx : -1000 ≤ x ∧ x ≤ 1000 ∧ -1000 ≤ y ∧ y ≤ 1000) (sh : Bool) : DOk (L ++ [⟨last + 1, v.n, x, y, sh, W, H, G⟩]) (last + 1) := by
  obtain ⟨rk, K, T⟩ := ok.tree
  have hvn := T.pos hv
  have hvl := ok.le v hv
  refine ⟨⟨updI' rk (last + 1) (rk v.n + 1), max K (rk v.n + 1), ?_, ?_, ?_, ?_⟩, ?_, ?_, ?_⟩
  · obtain ⟨r, t, rfl, h0, h1, h2⟩ := T.head
    refine ⟨r, t ++ [⟨last + 1, v.n, x, y, sh, W, H, G⟩], rfl, h0, h1, fun u hu => ?_⟩
    rcases List.mem_append.1 hu with hu | hu
    · exact h2 u hu
    · obtain rfl : u = ⟨last + 1, v.n, x, y, sh, W, H, G⟩ := by simpa using hu
      exact ⟨by show 1 ≤ last + 1; omega, hvn⟩
  · rw [List.map_append, List.nodup_append]
    refine ⟨T.nd, by simp, ?_⟩
    intro a ha b hb e
    obtain ⟨u, hu, rfl⟩ := List.mem_map.1 ha
    have : b = last + 1 := by simpa using hb
    have := ok.le u hu
    omega
  · intro u hu hp
    rcases List.mem_append.1 hu with hu | hu
    · obtain ⟨⟨q, hq, hqn⟩, hr⟩ := T.up u hu hp
      have h1 := ok.le u hu
      have h2 := ok.le q hq
      refine ⟨⟨q, List.mem_append.2 (.inl hq), hqn⟩, ?_⟩
      rw [updI'_other rk _ (by omega), updI'_other rk _ (by omega)]
      exact hr
    · obtain rfl : u = ⟨last + 1, v.n, x, y, sh, W, H, G⟩ := by simpa using hu
      refine ⟨⟨v, List.mem_append.2 (.inl hv), rfl⟩, ?_⟩
      show updI' rk (last + 1) (rk v.n + 1) v.n < updI' rk (last + 1) (rk v.n + 1) (last + 1)
      rw [updI'_same, updI'_other rk _ (by omega)]
      omega
  · intro u hu
    rcases List.mem_append.1 hu with hu | hu
    · have h1 := ok.le u hu
      rw [updI'_other rk _ (by omega)]
      have := T.le u hu
      omega
    · obtain rfl : u = ⟨last + 1, v.n, x, y, sh, W, H, G⟩ := by simpa using hu
      show updI' rk (last + 1) (rk v.n + 1) (last + 1) ≤ _
      rw [updI'_same]
      omega
  · intro u hu
    rcases List.mem_append.1 hu with hu | hu
    · have := ok.le u hu; omega
    · obtain rfl : u = ⟨last + 1, v.n, x, y, sh, W, H, G⟩ := by simpa using hu
      exact Int.le_refl _
  · rw [List.length_append]; simp; omega
  · intro u hu
    rcases List.mem_append.1 hu with hu | hu
    · exact ok.pl u hu
    · obtain rfl : u = ⟨last + 1, v.n, x, y, sh, W, H, G⟩ := by simpa using hu
      exact hx
/-- Blocks that are new are different from those that were there, and from each other. -/
theorem inj_of {M M' : Mm} {L L' : List Wn} (h : M.inj L) (B : Nat) (hB : ∀ i, M.own L i → i < B) (fr : Pl → Prop)
    (hold : ∀ p : Pl, p.ok L' → ¬ fr p → p.ok L ∧ M'.blk p = M.blk p) (hfr : ∀ (p : Pl) (i : Nat), p.ok L' → fr p → M'.blk p = some i → B ≤ i)
    (hff : ∀ (p q : Pl) (i : Nat), p.ok L' → q.ok L' → fr p → fr q → M'.blk p = some i → M'.blk q = some i → p = q) : M'.inj L' := by
  intro p q i hp hq e1 e2
  by_cases fp : fr p
  · by_cases fq : fr q
    · exact hff p q i hp hq fp fq e1 e2
    · obtain ⟨oq, bq⟩ := hold q hq fq
      have h1 := hfr p i hp fp e1
      have h2 := hB i ⟨q, oq, by rw [← bq]; exact e2⟩
      omega
  · obtain ⟨op, bp⟩ := hold p hp fp
    by_cases fq : fr q
    · have h1 := hfr q i hq fq e2
      have h2 := hB i ⟨p, op, by rw [← bp]; exact e1⟩
      omega
    · obtain ⟨oq, bq⟩ := hold q hq fq
      exact h p q i op oq (by rw [← bp]; exact e1) (by rw [← bq]; exact e2)
theorem own_of {M M' : Mm} {L L' : List Wn} (B : Nat) (fr : Pl → Prop) (hold : ∀ p : Pl, p.ok L' → ¬ fr p → p.ok L ∧ M'.blk p = M.blk p) (hfr : ∀ (p : Pl) (i : Nat), p.ok L' → fr p → M'.blk p = some i → B ≤ i) {i : Nat} (hi : M'.own L' i) : M.own L i ∨ B ≤ i := by
  obtain ⟨p, hp, e⟩ := hi
  by_cases fp : fr p
  · exact .inr (hfr p i hp fp e)
  · obtain ⟨op, bp⟩ := hold p hp fp
    exact .inl ⟨p, op, by rw [← bp]; exact e⟩
end Go.Proofs.YtjlfibhbfdckpaaGreatDoor
