/- Texts of the proof, one behind the other: RdO, RdP. -/
import Derived.Test.YtjlfibhbfdckpaaGreatDoorK13
import Derived.Test.YtjlfibhbfdckpaaGreatDoorK24
import Derived.Test.YtjlfibhbfdckpaaGreatDoorK29
import Derived.Test.YtjlfibhbfdckpaaGreatDoorK31
import Derived.Test.YtjlfibhbfdckpaaGreatDoorK33
/- The document's desk: Create. -/
namespace Go.Proofs.YtjlfibhbfdckpaaGreatDoor
open Go.RowKit
attribute [local go_sem ↓] Go.wp_at_zero Go.wp_at_succ
theorem keep_grown {w w' : World} {b : Option Nat} (h : w.grownBy w' b) : Keep (fun i => b = some i) w w' := ⟨h.os, h.tape, h.output, h.size, fun i hi hF => h.block i hi (fun e => hF e.symm)⟩
section
variable {R : Rm} {L : List Wn} {last : Int}
theorem rFlat_congr {c c' : Int → Nat} {L : List Wn} (h : ∀ u ∈ L, c u.n = c' u.n) : rFlat c L = rFlat c' L := by
  induction L with
  | nil => rfl
  | cons a t ih =>
    have e : ∀ (c : Int → Nat), rFlat c (a :: t) = rVals c a ++ rFlat c t := fun c => by simp [rFlat]
    rw [e, e, ih (fun u hu => h u (List.mem_cons_of_mem _ hu))]
    unfold rVals
    rw [h a List.mem_cons_self]
/-- Where all lies when a window more is there. -/
def Rm.more (R : Rm) (n : Int) (l : Value) (bc g cap : Nat) : Rm := ⟨R.d, l, updI' R.c n bc, updI' R.g n g, updI' R.cap n cap⟩
theorem create_rk {w w8 : World} (ok : DOk L last) (h : RkAt w R L last) (v : Wn) (x y : Int) (W H bc gg cc g7 cap7 : Nat) (lc : w.heap.size ≤ bc) (lg : w.heap.size ≤ gg)
    (hd : w8.heap[R.d]? = some (.cells #[.slice (some ⟨g7, 0, none⟩) (L.length + 1) cap7, .int .i64 (last + 1)] 110))
    (hr : w8.ownsRow 2 107 6 (.slice (some ⟨g7, 0, none⟩) (L.length + 1) cap7) (L.length + 1) (rFlat (updI' R.c (last + 1) bc) (L ++ [⟨last + 1, v.n, x, y, true, W, H, fun _ _ => blk Pn.plain⟩])))
    (hC : Cels w8 bc gg cc W H (H * W) (fun _ _ => blk Pn.plain)) (hg : R.l.ownBlock = some g7 ∨ (w.heap.size ≤ g7 ∧ g7 ≠ bc ∧ g7 ≠ gg)) (hk : Keep (fun i => i = R.d ∨ R.l.ownBlock = some i) w w8) (r : Value) :
    RkPost R L (L ++ [⟨last + 1, v.n, x, y, true, W, H, fun _ _ => blk Pn.plain⟩]) (last + 1) w r (.returned r) w8 := by
  obtain ⟨rk, K, T⟩ := ok.tree
  obtain ⟨nw, hnw⟩ : ∃ nw : Wn, nw = ⟨last + 1, v.n, x, y, true, W, H, fun _ _ => blk Pn.plain⟩ := ⟨_, rfl⟩
  have hnn : nw.n = last + 1 := by rw [hnw]
  rw [← hnw] at hr ⊢
  have hle : ∀ u ∈ L, u.n ≠ last + 1 := fun u hu => by have := ok.le u hu; omega
  have hB := h.two _ (rown_d R L)
  have hlt := h.lt (rown_d R L)
  have hnl : L.length + 1 = (L ++ [nw]).length := by simp
  have hold : ∀ p : Pl, p.okR (L ++ [nw]) → ¬ ((∃ k, p = .win (last + 1) k) ∨ p = .top 1) → p.okR L ∧ (R.more (last + 1) (.slice (some ⟨g7, 0, none⟩) (L.length + 1) cap7) bc gg cc).blk p = R.blk p := by
    intro p hp hf
    cases p with
    | top k =>
      have hk2 : k < 2 := hp
      match k, hk2 with
      | 0, _ => exact ⟨hp, rfl⟩
      | 1, _ => exact absurd (.inr rfl) hf
    | win n k =>
      obtain ⟨hk2, u, hu, hun⟩ := hp
      have hn : n ≠ last + 1 := fun e => hf (.inl ⟨k, by rw [e]⟩)
      have huL : u ∈ L := by
        rcases List.mem_append.1 hu with hu | hu
        · exact hu
        · obtain rfl : u = nw := by simpa using hu
          exact absurd (hun.symm.trans hnn) hn
      refine ⟨⟨hk2, u, huL, hun⟩, ?_⟩
      match k, hk2 with
      | 0, _ => simp [Rm.blk, Rm.more, updI'_other _ _ hn]
      | 1, _ => simp [Rm.blk, Rm.more, updI'_other _ _ hn]
  have hfr : ∀ (p : Pl) (i : Nat), p.okR (L ++ [nw]) → ((∃ k, p = .win (last + 1) k) ∨ p = .top 1) → (R.more (last + 1) (.slice (some ⟨g7, 0, none⟩) (L.length + 1) cap7) bc gg cc).blk p = some i → ((p = .win (last + 1) 0 ∧ i = bc) ∨ (p = .win (last + 1) 1 ∧ i = gg) ∨ (p = .top 1 ∧ i = g7)) := by
    rintro p i hp (⟨k, rfl⟩ | rfl) e
    · have hk2 : k < 2 := hp.1
      match k, hk2 with
      | 0, _ => exact .inl ⟨rfl, by simpa [Rm.blk, Rm.more, updI'_same] using e.symm⟩
      | 1, _ => exact .inr (.inl ⟨rfl, by simpa [Rm.blk, Rm.more, updI'_same] using e.symm⟩)
    · exact .inr (.inr ⟨rfl, by simpa [Rm.blk, Rm.more, Value.ownBlock] using e.symm⟩)
  have hne : bc ≠ gg := hC.ne
  have hown : ∀ i, (R.more (last + 1) (.slice (some ⟨g7, 0, none⟩) (L.length + 1) cap7) bc gg cc).own (L ++ [nw]) i → R.own L i ∨ w.heap.size ≤ i := by
    rintro i ⟨p, hp, e⟩
    by_cases hf : (∃ k, p = .win (last + 1) k) ∨ p = .top 1
    · rcases hfr p i hp hf e with ⟨_, r⟩ | ⟨_, r⟩ | ⟨_, r⟩
      · exact .inr (by omega)
      · exact .inr (by omega)
      · rcases hg with q | q
        · exact .inl (r ▸ rown_l R L q)
        · exact .inr (by omega)
    · obtain ⟨a, b⟩ := hold p hp hf
      exact .inl ⟨p, a, by rw [← b]; exact e⟩
  refine ⟨R.more (last + 1) (.slice (some ⟨g7, 0, none⟩) (L.length + 1) cap7) bc gg cc, rfl, ⟨hd, ?_, ?_, ?_, ?_, ?_⟩, rfl, hk.mono (fun i e => e.elim (fun e => e ▸ rown_d R L) (fun e => rown_l R L e)), hown⟩
  · show w8.ownsRow _ _ _ (.slice (some ⟨g7, 0, none⟩) (L.length + 1) cap7) _ (rFlat (updI' R.c (last + 1) bc) _)
    rw [← hnl]; exact hr
  · intro u hu
    show Cels w8 (updI' R.c (last + 1) bc u.n) (updI' R.g (last + 1) gg u.n) (updI' R.cap (last + 1) cc u.n) u.W u.H (u.H * u.W) u.G
    rcases List.mem_append.1 hu with hu | hu
    · rw [updI'_other _ _ (hle u hu), updI'_other _ _ (hle u hu), updI'_other _ _ (hle u hu)]
      have kk : ∀ (k i : Nat), k < 2 → R.blk (.win u.n k) = some i → w8.heap[i]? = w.heap[i]? := fun k i hk2 e => hk.block i (h.lt ⟨.win u.n k, ⟨hk2, u, hu, rfl⟩, e⟩) (by
        rintro (e' | e')
        · exact h.ne (p := .win u.n k) (q := .top 0) ⟨hk2, u, hu, rfl⟩ (show 0 < 2 by omega) e rfl (by simp) e'
        · exact h.ne (p := .win u.n k) (q := .top 1) ⟨hk2, u, hu, rfl⟩ (show 1 < 2 by omega) e e' (by simp) rfl)
      exact (h.win u hu).same (kk 0 _ (by omega) rfl) (kk 1 _ (by omega) rfl)
    · obtain rfl : u = nw := by simpa using hu
      rw [hnn, updI'_same, updI'_same, updI'_same, hnw]
      exact hC
  · intro u hu
    rcases List.mem_append.1 hu with hu | hu
    · exact h.wf u hu
    · obtain rfl : u = nw := by simpa using hu
      rw [hnw]; exact wf_plain _ _
  · intro p q i hp hq e1 e2
    have key : ∀ p : Pl, p.okR (L ++ [nw]) → (R.more (last + 1) (.slice (some ⟨g7, 0, none⟩) (L.length + 1) cap7) bc gg cc).blk p = some i → (p.okR L ∧ p ≠ .top 1 ∧ R.blk p = some i ∧ i < w.heap.size) ∨ (p = .win (last + 1) 0 ∧ i = bc) ∨ (p = .win (last + 1) 1 ∧ i = gg) ∨ (p = .top 1 ∧ i = g7) := fun p hp e => by
      by_cases hf : (∃ k, p = .win (last + 1) k) ∨ p = .top 1
      · exact .inr (hfr p i hp hf e)
      · obtain ⟨a, b⟩ := hold p hp hf
        rw [b] at e
        exact .inl ⟨a, fun q => hf (.inr q), e, h.lt ⟨p, a, e⟩⟩
    rcases key p hp e1 with ⟨a1, a2, a3, a4⟩ | ⟨rfl, a⟩ | ⟨rfl, a⟩ | ⟨rfl, a⟩ <;> rcases key q hq e2 with ⟨b1, b2, b3, b4⟩ | ⟨rfl, b⟩ | ⟨rfl, b⟩ | ⟨rfl, b⟩
    · exact h.inj p q i a1 b1 a3 b3
    · omega
    · omega
    · rcases hg with q | q
      · exact h.inj p (.top 1) i a1 (show 1 < 2 by omega) a3 (by rw [b]; exact q)
      · omega
    · omega
    · rfl
    · omega
    · exfalso; rcases hg with q | q
      · have := h.lt (rown_l R L q); omega
      · omega
    · omega
    · omega
    · rfl
    · exfalso; rcases hg with q | q
      · have := h.lt (rown_l R L q); omega
      · omega
    · rcases hg with r | r
      · exact h.inj (.top 1) q i (show 1 < 2 by omega) b1 (by rw [a]; exact r) b3
      · omega
    · exfalso; rcases hg with q | q
      · have := h.lt (rown_l R L q); omega
      · omega
    · exfalso; rcases hg with q | q
      · have := h.lt (rown_l R L q); omega
      · omega
    · rfl
  · intro i hi
    rcases hown i hi with e | e
    · exact h.two i e
    · omega
set_option maxRecDepth 100000 in
set_option maxHeartbeats 2000000 in
theorem rdCreate (ok : DOk L last) (w : World) (h : RkAt w R L last) (v : Wn) (j : Nat) (hj : L[j]? = some v) (hne : ∀ i u, i < j → L[i]? = some u → u.n ≠ v.n) (x y : Int) (W H' : Nat) (hp : placeB x y = true) (hs : sizeB W H' = true) (hlen : L.length < 16) (hlast : last < 9223372036854775807) (hl0 : 0 ≤ last) :
    Calls Tryz.prog 96 #[.pointer (some ⟨R.d, 0, none⟩), .int .i64 v.n, .int .i64 x, .int .i64 y, .int .i64 W, .int .i64 H'] w (RkPost R L (L ++ [⟨last + 1, v.n, x, y, true, W, H', fun _ _ => blk Pn.plain⟩]) (last + 1) w (.tuple #[.int .i64 (last + 1), .int .i64 0])) := by
  have HR : Hid (RkAt w R L last) := h
  have H : Hid (Calls Tryz.prog 79 #[.pointer (some ⟨R.d, 0, none⟩), .int .i64 v.n] w fun e w' => e = .returned (.int .i64 j) ∧ w' = w) := rdAtIn ok w h v j hj hne
  have d0 := h.d0
  have d1 := h.d1
  obtain ⟨g, cap, hl, hw, hfz, _⟩ := h.sl ok.one
  rw [hl] at d0
  have fz := frozen_of_block h.blk
  have hj1 : ¬ (j : Int) < 0 := by omega
  have hlen' : ¬ (16 : Int) ≤ (L.length : Int) := by omega
  have hz := sizeB_iff.1 hs
  have sl : IntKind.i64.wrap (last + 1) = last + 1 := wrap_id _ (by omega) (by omega)
  clear h hw hj hne
  go_enter Tryz.func96, Tryz.ntmps96
  go_wp2_with (first | (go_at_call 79; refine (H.out).mono ?_; rintro e w' ⟨rfl, hw'⟩; replace hw' := hw'.symm; subst hw') | (go_at_call 80; refine (rdPlace _ _ _).mono ?_; rintro e w' ⟨rfl, hw'⟩; replace hw' := hw'.symm; subst hw') | (go_at_call 73; refine (refSize _ _ _).mono ?_; rintro e w' ⟨rfl, hw'⟩; replace hw' := hw'.symm; subst hw'))
  have hbs : (w.setCell ⟨R.d, 1, none⟩ (.int .i64 (last + 1))).heap[R.d]? = some (.cells #[R.l, .int .i64 (last + 1)] 110) := heap_set_same HR.out.blk 1 _
  have hks : Keep (fun i => i = R.d) w (w.setCell ⟨R.d, 1, none⟩ (.int .i64 (last + 1))) := (Keep.refl _ _).setCell _ _ (fun _ => rfl)
  generalize w.setCell ⟨R.d, 1, none⟩ (.int .i64 (last + 1)) = ws at *
  have d0s : ws.cell? ⟨R.d, 0, none⟩ = some (.slice (some ⟨g, 0, none⟩) L.length cap) := by rw [cell_of_block hbs 0, hl]; rfl
  have d1s : ws.cell? ⟨R.d, 1, none⟩ = some (.int .i64 (last + 1)) := cell_of_block hbs 1
  have fzs := frozen_of_block hbs
  have hbl : R.d < ws.heap.size := (Array.getElem?_eq_some_iff.1 hbs).1
  have hgl : R.l.ownBlock = some g := by rw [hl]; rfl
  have hgd : g ≠ R.d := HR.out.ne (p := .top 1) (q := .top 0) (show 1 < 2 by omega) (show 0 < 2 by omega) hgl rfl (by simp)
  have Hrow : Hid (ws.ownsRow 2 107 6 (.slice (some ⟨g, 0, none⟩) L.length cap) L.length (rFlat R.c L)) := by
    have := ownsRow_same HR.out.row (w' := ws) (fun i hi => hks.block _ (HR.out.lt (rown_l R L hi)) (fun e => by rw [hgl] at hi; injection hi with hi; omega))
    rw [hl] at this
    exact this
  have Hbs : Hid (ws.heap[R.d]? = some (.cells #[R.l, .int .i64 (last + 1)] 110)) := hbs
  have Hks : Hid (Keep (fun i => i = R.d) w ws) := hks
  have hB2 := HR.out.two _ (rown_d R L)
  have Hl : Hid (R.l = .slice (some ⟨g, 0, none⟩) L.length cap) := hl
  clear hbs hks d0 d1 fz
  go_region_law (first | (go_simp; go_at_call 74; refine (refMade W H' _ (by omega) (by omega) (by omega) (by omega)).mono ?_; rintro e w5 ⟨bc, gg, cc, rfl, lc, lg, C5, hb5⟩; have hb6 := below_drew' hb5; have e1 := hb6.cells hbl; have e2 := hb6.marks hbl; have HC5 : Hid (Cels w5 bc gg cc W H' (H' * W) (fun _ _ => blk Pn.plain)) := C5; have Hlc : Hid (ws.heap.size ≤ bc ∧ ws.heap.size ≤ gg) := ⟨lc, lg⟩; have Hb6 : Hid (Below ws.heap.size ws w5) := hb6; have Hr6 : Hid (w5.ownsRow 2 107 6 (.slice (some ⟨g, 0, none⟩) L.length cap) L.length (rFlat (updI' R.c (last + 1) bc) L)) := (by show World.ownsRow _ _ _ _ _ _ _; rw [← rFlat_congr (c := R.c) (fun u hu => (updI'_other R.c bc (by have := ok.le u hu; omega)).symm)]; exact ownsRow_same Hrow.out (fun i hi => hb6.block _ (Hrow.out.lt i hi).2)); have l6 : R.d < w5.heap.size := Nat.lt_of_lt_of_le hbl hb6.size; clear hb5 C5 lc lg hb6) | (refine step_append_win _ (by rfl) (.tmp 49) (.tmp 61) (by rfl) 2 (.slice (some ⟨g, 0, none⟩) L.length cap) (updI' R.c (last + 1) bc) L ⟨last + 1, v.n, x, y, true, W, H', fun _ _ => blk Pn.plain⟩ L.length rfl (by simp [Act.eval]) (ownsRow_same Hr6.out (fun i hi => Below.heap_alloc _ _ _ (Hr6.out.lt i hi).2)) w5.heap.size (by simp [Act.eval]) (by rw [show updI' R.c (last + 1) bc (last + 1) = bc from updI'_same _ _ _]; exact heap_new w5 _) (by omega) (by simp; omega) ?_; intro g7 cap7 w7 hr7 hg7 ho7 hl7; have hbk : w7.heap[R.d]? = some (.cells #[R.l, .int .i64 (last + 1)] 110) := (hg7.block _ (by simp; omega) (fun e => hgd (by injection e with e; exact e.symm))).trans ((Below.heap_alloc _ _ _ l6).trans ((Hb6.out.block _ hbl).trans Hbs.out)); have c7 : w7.cell? ⟨R.d, 0, none⟩ = some R.l := (cell_of_block hbk 0); have f7 : w7.frozen? ⟨R.d, 0, none⟩ = false := frozen_of_block hbk 0))
  all_goals
    have hz5 : w5.heap.size < w7.heap.size := by have := hg7.size; simp at this; omega
    have K7 : Keep (fun i => i = R.d ∨ R.l.ownBlock = some i) w (w7.setCell ⟨R.d, 0, none⟩ (.slice (some ⟨g7, 0, none⟩) (L.length + 1) cap7)) := by
      have k5 : Keep (fun i => i = R.d ∨ R.l.ownBlock = some i) w (w5.alloc (.cells (rArr ⟨last + 1, v.n, x, y, true, W, H', fun _ _ => blk Pn.plain⟩ bc) 107)) := ((Hks.out.mono (fun i e => .inl e)).trans (Keep.below _ Hb6.out) (fun _ _ q => q)).trans (Keep.below _ ((Below.refl _ _).alloc (Nat.le_refl _) _)) (fun _ _ q => q)
      refine (k5.trans (keep_grown hg7) (fun i _ e => .inr ?_)).setCell _ _ (fun _ => .inl rfl)
      rw [hgl]; exact e
    have HP : Hid (RkPost R L (L ++ [⟨last + 1, v.n, x, y, true, W, H', fun _ _ => blk Pn.plain⟩]) (last + 1) w (.tuple #[.int .i64 (last + 1), .int .i64 0]) (.returned (.tuple #[.int .i64 (last + 1), .int .i64 0])) (w7.setCell ⟨R.d, 0, none⟩ (.slice (some ⟨g7, 0, none⟩) (L.length + 1) cap7))) := by
      have zs := Hks.out.size
      have z5 := Hb6.out.size
      have hlc := Hlc.out
      have lt1 := HC5.out.lt
      have lt2 := HC5.out.glt
      have cs : ∀ i, i < w5.heap.size → i ≠ R.d → i ≠ g → (w7.setCell ⟨R.d, 0, none⟩ (.slice (some ⟨g7, 0, none⟩) (L.length + 1) cap7)).heap[i]? = w5.heap[i]? := fun i hi n1 n2 => by
        rw [Below.heap_setCell _ _ _ _ n1, hg7.block _ (by simp; omega) (fun e => n2 (by injection e with e)), Below.heap_alloc _ _ _ hi]
      have hgw := HR.out.lt (rown_l R L hgl)
      refine create_rk ok HR.out v x y W H' bc gg cc g7 cap7 (by omega) (by omega) ?_ ?_ (HC5.out.same (cs _ lt1 (by omega) (by omega)) (cs _ lt2 (by omega) (by omega))) ?_ K7 _
      · exact heap_set_same hbk 0 _
      · refine ownsRow_same hr7 (fun i hi => Below.heap_setCell _ _ _ _ ?_)
        injection hi with hi
        have hi' : g7 = i := hi
        rcases ho7 with e | e
        · injection e with e
          have e' : g = g7 := e
          show i ≠ R.d
          omega
        · simp at e
          show i ≠ R.d
          omega
      · rcases ho7 with e | e
        · exact .inl (by rw [hgl]; exact e)
        · simp at e
          exact .inr ⟨by omega, by omega, by omega⟩
    have d1w : (w7.setCell ⟨R.d, 0, none⟩ (.slice (some ⟨g7, 0, none⟩) (L.length + 1) cap7)).cell? ⟨R.d, 1, none⟩ = some (.int .i64 (last + 1)) := cell_of_block (heap_set_same hbk 0 (.slice (some ⟨g7, 0, none⟩) (L.length + 1) cap7)) 1
    generalize w7.setCell ⟨R.d, 0, none⟩ (.slice (some ⟨g7, 0, none⟩) (L.length + 1) cap7) = w8 at *
    clear hr7 hg7 ho7 hl7 hbk c7 f7 e1 e2 K7 hz5 d0s d1s fzs
    go_wp2_with fail
    go_ret2
    exact HP.out
end
end Go.Proofs.YtjlfibhbfdckpaaGreatDoor

/- The document's desk: NewDesk. -/
namespace Go.Proofs.YtjlfibhbfdckpaaGreatDoor
open Go.RowKit
attribute [local go_sem ↓] Go.wp_at_zero Go.wp_at_succ
theorem rdNewNo (x y : Int) (w : World) (hs : sizeB x y = false) :
    Calls Tryz.prog 29 #[.int .i64 x, .int .i64 y] w fun e w' => e = .returned (.pointer none) ∧ w' = w := by
  go_enter Tryz.func29, Tryz.ntmps29
  go_wp2_with (first | (go_at_call 73; refine (refSize _ _ _).mono ?_; rintro e w' ⟨rfl, hw'⟩; replace hw' := hw'.symm; subst hw'))
  go_ret
  exact ⟨rfl, rfl⟩
set_option maxHeartbeats 1000000 in
theorem rdNew (W H : Nat) (w : World) (hs : sizeB W H = true) (hw : 2 ≤ w.heap.size) :
    Calls Tryz.prog 29 #[.int .i64 W, .int .i64 H] w fun e w' => ∃ R : Rm, e = .returned (.pointer (some ⟨R.d, 0, none⟩)) ∧ RkAt w' R [rootW W H] 0 ∧ Below w.heap.size w w' ∧ ∀ i, R.own [rootW W H] i → w.heap.size ≤ i := by
  have hz := sizeB_iff.1 hs
  go_enter Tryz.func29, Tryz.ntmps29
  go_wp2_with (first | (go_at_call 73; refine (refSize _ _ _).mono ?_; rintro e w' ⟨rfl, hw'⟩; replace hw' := hw'.symm; subst hw'))
  go_at_call 74
  refine (refMade W H _ (by omega) (by omega) (by omega) (by omega)).mono ?_
  rintro e w1 ⟨bc, g, cap, rfl, lc, lg, C1, b1⟩
  have HC : Hid (Cels w1 bc g cap W H (H * W) (fun _ _ => blk Pn.plain)) := C1
  have HB : Hid (Below w.heap.size w w1) := b1
  have lt1 := C1.lt
  have lt2 := C1.glt
  have hne : bc ≠ g := C1.ne
  have s1 := b1.size
  clear C1 b1
  have HP : Hid (∃ R : Rm, Ending.returned (.pointer (some ⟨w1.heap.size + 1, 0, none⟩)) = .returned (.pointer (some ⟨R.d, 0, none⟩)) ∧ RkAt ((w1.alloc (.cells #[.int .i64 0, .int .i64 (-1), .int .i64 0, .int .i64 0, .bool true, .pointer (some ⟨bc, 0, none⟩)] 107)).alloc (.cells #[.slice (some ⟨w1.heap.size, 0, none⟩) 1 1, .int .i64 0] 110)) R [rootW W H] 0 ∧ Below w.heap.size w ((w1.alloc (.cells #[.int .i64 0, .int .i64 (-1), .int .i64 0, .int .i64 0, .bool true, .pointer (some ⟨bc, 0, none⟩)] 107)).alloc (.cells #[.slice (some ⟨w1.heap.size, 0, none⟩) 1 1, .int .i64 0] 110)) ∧ ∀ i, R.own [rootW W H] i → w.heap.size ≤ i) := by
    have bA : Below w1.heap.size w1 ((w1.alloc (.cells #[.int .i64 0, .int .i64 (-1), .int .i64 0, .int .i64 0, .bool true, .pointer (some ⟨bc, 0, none⟩)] 107)).alloc (.cells #[.slice (some ⟨w1.heap.size, 0, none⟩) 1 1, .int .i64 0] 110)) := ((Below.refl _ _).alloc (Nat.le_refl _) _).alloc (by simp) _
    have hb0 : ((w1.alloc (.cells #[.int .i64 0, .int .i64 (-1), .int .i64 0, .int .i64 0, .bool true, .pointer (some ⟨bc, 0, none⟩)] 107)).alloc (.cells #[.slice (some ⟨w1.heap.size, 0, none⟩) 1 1, .int .i64 0] 110)).heap[w1.heap.size]? = some (.cells #[.int .i64 0, .int .i64 (-1), .int .i64 0, .int .i64 0, .bool true, .pointer (some ⟨bc, 0, none⟩)] 107) := by
      rw [Below.heap_alloc _ _ _ (by simp)]; exact heap_new w1 _
    have hb1 : ((w1.alloc (.cells #[.int .i64 0, .int .i64 (-1), .int .i64 0, .int .i64 0, .bool true, .pointer (some ⟨bc, 0, none⟩)] 107)).alloc (.cells #[.slice (some ⟨w1.heap.size, 0, none⟩) 1 1, .int .i64 0] 110)).heap[w1.heap.size + 1]? = some (.cells #[.slice (some ⟨w1.heap.size, 0, none⟩) 1 1, .int .i64 0] 110) := by
      have := heap_new (w1.alloc (.cells #[.int .i64 0, .int .i64 (-1), .int .i64 0, .int .i64 0, .bool true, .pointer (some ⟨bc, 0, none⟩)] 107)) (.cells #[.slice (some ⟨w1.heap.size, 0, none⟩) 1 1, .int .i64 0] 110)
      rw [size_alloc] at this
      exact this
    generalize (w1.alloc (.cells #[.int .i64 0, .int .i64 (-1), .int .i64 0, .int .i64 0, .bool true, .pointer (some ⟨bc, 0, none⟩)] 107)).alloc (.cells #[.slice (some ⟨w1.heap.size, 0, none⟩) 1 1, .int .i64 0] 110) = w3 at *
    have own : ∀ (p : Pl) (i : Nat), p.okR [rootW W H] → Rm.blk ⟨w1.heap.size + 1, .slice (some ⟨w1.heap.size, 0, none⟩) 1 1, fun _ => bc, fun _ => g, fun _ => cap⟩ p = some i → (p = .top 0 ∧ i = w1.heap.size + 1) ∨ (p = .top 1 ∧ i = w1.heap.size) ∨ (p = .win 0 0 ∧ i = bc) ∨ (p = .win 0 1 ∧ i = g) := by
      intro p i hp e
      cases p with
      | top k =>
        have hk : k < 2 := hp
        match k, hk with
        | 0, _ => exact .inl ⟨rfl, by simpa [Rm.blk] using e.symm⟩
        | 1, _ => exact .inr (.inl ⟨rfl, by simpa [Rm.blk, Value.ownBlock] using e.symm⟩)
      | win n k =>
        obtain ⟨hk, v, hv, e'⟩ := hp
        obtain rfl : v = rootW W H := by simpa using hv
        obtain rfl : (0 : Int) = n := e'
        match k, hk with
        | 0, _ => exact .inr (.inr (.inl ⟨rfl, by simpa [Rm.blk] using e.symm⟩))
        | 1, _ => exact .inr (.inr (.inr ⟨rfl, by simpa [Rm.blk] using e.symm⟩))
    refine ⟨⟨w1.heap.size + 1, .slice (some ⟨w1.heap.size, 0, none⟩) 1 1, fun _ => bc, fun _ => g, fun _ => cap⟩, rfl, ⟨hb1, ?_, ?_, ?_, ?_, ?_⟩, HB.out.trans (bA.mono s1), ?_⟩
    · exact ⟨rfl, .inr ⟨w1.heap.size, 1, _, rfl, by omega, hb0, Nat.le_refl _, by decide, rfl, rfl⟩⟩
    · intro v hv
      obtain rfl : v = rootW W H := by simpa using hv
      exact HC.out.below bA
    · intro v hv
      obtain rfl : v = rootW W H := by simpa using hv
      exact wf_plain _ _
    · intro p q i hp hq e1 e2
      rcases own p i hp e1 with ⟨rfl, a⟩ | ⟨rfl, a⟩ | ⟨rfl, a⟩ | ⟨rfl, a⟩ <;> rcases own q i hq e2 with ⟨rfl, b⟩ | ⟨rfl, b⟩ | ⟨rfl, b⟩ | ⟨rfl, b⟩ <;> first | rfl | (exfalso; omega)
    · rintro i ⟨p, hp, e⟩
      rcases own p i hp e with ⟨_, a⟩ | ⟨_, a⟩ | ⟨_, a⟩ | ⟨_, a⟩ <;> omega
    · rintro i ⟨p, hp, e⟩
      rcases own p i hp e with ⟨_, a⟩ | ⟨_, a⟩ | ⟨_, a⟩ | ⟨_, a⟩ <;> omega
  go_wp2_with fail
  go_ret
  exact HP.out
end Go.Proofs.YtjlfibhbfdckpaaGreatDoor
