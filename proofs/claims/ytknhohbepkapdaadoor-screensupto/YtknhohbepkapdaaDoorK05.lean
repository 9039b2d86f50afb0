/- Texts of the proof, one behind the other: PgM, Gr5, ScP, ScP2, ScP3, ScP4, Nm, ScP5, PlN, ScP6. -/
import Derived.Test.YtknhohbepkapdaaDoorK01
import Derived.Test.YtknhohbepkapdaaDoorK03
import Derived.Test.YtknhohbepkapdaaDoorK04
/- The program's grid: Resize. -/
namespace Go.Proofs.YtknhohbepkapdaaDoor
open Go.RowKit
attribute [local go_sem ↓] Go.wp_at_zero Go.wp_at_succ
/-- The first j lines have their cells. -/
def sizedTo (W H W' : Nat) (G : Nat → Nat → Cel) (j : Nat) : Nat → Nat → Cel := fun x y => if y < j then sizedG W H W' G x y else blk Pn.plain
theorem sized_all {W H W' H' : Nat} (G : Nat → Nat → Cel) {j : Nat} (hj : j = H' ∨ j = H) : EqOn W' H' (sizedTo W H W' G j) (sizedG W H W' G) := by
  intro x y _ hy
  unfold sizedTo
  by_cases h : y < j
  · rw [if_pos h]
  · rw [if_neg h]
    unfold sizedG lastG
    have : ¬ (x < W ∧ y < H) := by omega
    simp only [if_neg this]
    rw [if_neg (by simp [blk])]
theorem sized_step {W H W' H' j c : Nat} {G K : Nat → Nat → Cel} (hw : Wf W H G) (hK : ∀ x, x < W → K x j = G x j) (hj : j < H) (hc : (c = W' ∧ c ≤ W) ∨ (c = W ∧ c ≤ W')) (c1 : 1 ≤ c) :
    EqOn W' H' (unlin W' (copyF (lin W' (sizedTo W H W' G j)) (partF (lin W K) (j * W) W 0 c) (j * W') (j * W) c)) (sizedTo W H W' G (j + 1)) := by
  intro x y hx _
  unfold unlin copyF
  have cm := place_cmp (W := W') (x := x) y j hx
  have cm2 := place_cmp (W := W') (x := x) y (j + 1) hx
  rw [Nat.add_mul] at cm2
  by_cases hy : y = j
  · subst hy
    rw [show sizedTo W H W' G (y + 1) x y = sizedG W H W' G x y from if_pos (by omega)]
    by_cases hxc : x < c
    · rw [if_pos (by omega), show y * W + (y * W' + x - y * W') = y * W + x by omega]
      unfold partF
      rw [cutF_none (c := 0) (.inl rfl)]
      have hL : lin W K (y * W + x) = G x y := by rw [lin_at K y (by omega)]; exact hK x (by omega)
      unfold sizedG lastG
      have hin : x < W ∧ y < H := by omega
      simp only [if_pos hin]
      by_cases hl : x + 1 = c
      · by_cases hcW : c < W
        · have hLc : lin W K (y * W + c) = G c y := by rw [lin_at K y hcW]; exact hK c hcW
          have := cutF_left (L := lin W K) (m := y * W) c1 hcW
          rw [show y * W + c - 1 = y * W + x by omega, hLc, hL] at this
          rw [this]
          by_cases e : (G c y).p = 2
          · have t := hw.tail c y hcW hj e
            rw [show c - 1 = x by omega] at t
            rw [if_pos e, if_pos ⟨by omega, by rw [t.2]⟩]
          · rw [if_neg e, if_neg (fun q => e ?_)]
            have t := hw.head x y (by omega) hj q.2
            rw [hl] at t
            rw [t.2]
        · rw [cutF_none (c := c) (.inr (by omega)), hL, if_neg (fun q => ?_)]
          have t := hw.head x y (by omega) hj q.2
          omega
      · rw [cutF_far (by omega) (by omega), hL, if_neg (by omega)]
    · rw [if_neg (by omega), lin_at _ y hx]
      unfold sizedG lastG
      have : ¬ (x < W ∧ y < H) := by omega
      simp only [if_neg this]
      unfold sizedTo
      rw [if_neg (by omega), if_neg (by simp [blk])]
  · rw [if_neg (by omega), lin_at _ y hx]
    unfold sizedTo
    by_cases h : y < j
    · rw [if_pos h, if_pos (by omega)]
    · rw [if_neg h, if_neg (by omega)]
theorem part_rest {W j c y x : Nat} {K : Nat → Nat → Cel} (hc : c ≤ W) (hx : x < W) (hy : j < y) : unlin W (partF (lin W K) (j * W) W 0 c) x y = K x y := by
  unfold unlin partF
  rw [cutF_none (c := 0) (.inl rfl)]
  have := Nat.mul_le_mul_right W (show j + 1 ≤ y from hy)
  rw [Nat.add_mul] at this
  by_cases e : c < W
  · rw [cutF_far (by omega) (by omega), lin_at K y hx]
  · rw [cutF_none (.inr (by omega)), lin_at K y hx]
set_option maxRecDepth 10000 in
set_option maxHeartbeats 2000000 in
theorem pSize (bg g W H N W' H' : Nat) (G : Nat → Nat → Cel) (w : World) (h : GrAt w bg g W H N G) (hw : Wf W H G) (w1 : 1 ≤ W') (w2 : W' ≤ 40) (h1 : 1 ≤ H') (h2 : H' ≤ 20) :
    Calls Tryd.prog 44 #[.pointer (some ⟨bg, 0, none⟩), .int .i64 W', .int .i64 H'] w fun e w' => ∃ g', e = .returned (.tuple #[]) ∧ GrAt w' bg g' W' H' (H' * W') (sizedG W H W' G) ∧ Keep (fun i => i = bg ∨ i = g) w w' ∧ w.heap.size ≤ g' := by
  have HG : Hid (GrAt w bg g W H N G) := h
  have c0 := h.c0
  have c1 := h.c1
  have wo1 := h.w1
  have wo2 := h.w2
  have ho1 := h.h1
  have ho2 := h.h2
  clear h
  go_enter Tryd.func44, Tryd.ntmps44
  go_wp2_with fail
  go_at_call 49
  refine (pNew W' H' _ w1 w2 h1 h2).mono ?_
  rintro e wa ⟨bn, gn, rfl, GN, hb, hbn, hgn⟩
  have GO : GrAt wa bg g W H N G := HG.out.below hb
  have Hlt := HG.out.lt
  have Hglt := HG.out.glt
  clear c0 c1 HG
  have c0 := GO.c0
  have c1 := GO.c1
  have HGO : Hid (GrAt wa bg g W H N G) := GO
  have HGN : Hid (GrAt wa bn gn W' H' (H' * W') (fun _ _ => blk Pn.plain)) := GN
  clear GO GN
  obtain ⟨c, hc⟩ : ∃ c : Nat, leastI W' W = c := ⟨(leastI W' W).toNat, by unfold leastI; split <;> omega⟩
  obtain ⟨l, hl⟩ : ∃ l : Nat, leastI H' H = l := ⟨(leastI H' H).toNat, by unfold leastI; split <;> omega⟩
  have hc1 : (c = W' ∧ c ≤ W) ∨ (c = W ∧ c ≤ W') := by unfold leastI at hc; split at hc <;> omega
  have hl1 : (l = H' ∧ l ≤ H) ∨ (l = H ∧ l ≤ H') := by unfold leastI at hl; split at hl <;> omega
  go_wp2_with (first | (go_at_call 66; refine (pLeast _ _ _).mono ?_; rintro e w' ⟨rfl, hw'⟩; replace hw' := hw'.symm; subst hw'; first | rw [hc] | rw [hl]))
  go_loopw [8, 24] (fun _ i w' => ∃ (j : Nat) (K : Nat → Nat → Cel), j ≤ l ∧ i = .int .i64 j ∧ GrAt w' bg g W H N K ∧ (∀ x y, x < W → j ≤ y → y < H → K x y = G x y) ∧ GrAt w' bn gn W' H' (H' * W') (sizedTo W H W' G j) ∧ Keep (fun i => i = g) w w') (fun _ i _ => l - (intOf i).toNat)
  case atStart => exact ⟨0, G, by omega, rfl, HGO.out, fun _ _ _ _ _ => rfl, HGN.out.congr (fun x y _ _ => by unfold sizedTo; rw [if_neg (by omega)]), Keep.below _ hb⟩
  case round =>
    obtain ⟨j, K, hj, rfl, hO, hK, hN, hKp⟩ := hrel
    have HO1 : Hid (GrAt wr bg g W H N K) := hO
    have HN1 : Hid (GrAt wr bn gn W' H' (H' * W') (sizedTo W H W' G j)) := hN
    have HK : Hid (∀ x y, x < W → j ≤ y → y < H → K x y = G x y) := hK
    clear hO hN hK HGO HGN c0 c1
    by_cases hlt : j < l
    · obtain ⟨m, hm⟩ : ∃ m, j * W = m := ⟨_, rfl⟩
      obtain ⟨m', hm'⟩ : ∃ m', j * W' = m' := ⟨_, rfl⟩
      have hmw : m + W ≤ N := by rw [← hm, HO1.out.hN]; have := Nat.mul_le_mul_right W (show j + 1 ≤ H by omega); rw [Nat.add_mul] at this; omega
      have hmw' : m' + W' ≤ H' * W' := by rw [← hm']; have := Nat.mul_le_mul_right W' (show j + 1 ≤ H' by omega); rw [Nat.add_mul] at this; omega
      obtain ⟨N', hN'⟩ : ∃ N', H' * W' = N' := ⟨_, rfl⟩
      rw [hN'] at HN1 hmw'
      obtain ⟨r, hr⟩ : ∃ r, m + r = N := ⟨N - m, by omega⟩
      obtain ⟨r', hr'⟩ : ∃ r', m' + r' = N' := ⟨N' - m', by omega⟩
      have hne : gn ≠ g := by omega
      have hneb : bn ≠ g := by omega
      go_wp2_with fail
      go_at_call 67
      refine (pLine bn gn W' H' N' _ j m' r' _ HN1.out (by omega) hm' hr').mono ?_
      rintro e w2 ⟨rfl, hb2⟩
      have HO2 : Hid (GrAt w2 bg g W H N K) := HO1.out.below hb2
      have HN2 : Hid (GrAt w2 bn gn W' H' N' (sizedTo W H W' G j)) := HN1.out.below hb2
      have K2 : Keep (fun i => i = g) w w2 := hKp.thenBelow hb2
      clear HO1 HN1 hKp hb2
      go_wp2_with fail
      go_at_call 68
      refine (pPart bg g W H N K 0 c j m r _ HO2.out (by omega) hm hr (by omega) (by omega)).mono ?_
      rintro e w3 ⟨rfl, F3, K23⟩
      have HF3 : Hid (Flat w3 g N (partF (lin W K) m W 0 c)) := F3
      have HN3 : Hid (GrAt w3 bn gn W' H' N' (sizedTo W H W' G j)) := HN2.out.same (K23.block _ HN2.out.lt hneb) (K23.block _ HN2.out.glt hne)
      have HO3 : Hid (GrAt w3 bg g W H N (unlin W (partF (lin W K) m W 0 c))) := HO2.out.with F3 K23 (fun _ _ _ _ => rfl)
      have K3 : Keep (fun i => i = g) w w3 := K2.trans K23 (fun _ _ h => h)
      clear F3 K23 HO2 HN2 K2
      have hmn : Nat.min c W' = c := Nat.min_eq_left (by omega)
      go_wp2_with fail
      have FN3 : Flat w3 gn N' (lin W' (sizedTo W H W' G j)) := HN3.out.flat
      obtain ⟨w5, hrun, F5, K35⟩ := run_copy_any (P := Tryd.prog) w3 85 85 3 56 gn g N' N (lin W' (sizedTo W H W' G j)) (partF (lin W K) m W 0 c) (some ⟨gn, m' * 7, none⟩) (some ⟨g, m * 7, none⟩) m' m W' r' c r c Tryd.underlying85 cellSize hmn.symm FN3 HF3.out (fun _ => ⟨rfl, rfl, by omega, by omega⟩)
      rw [hrun]
      have HO5 : Hid (GrAt w5 bg g W H N (unlin W (partF (lin W K) m W 0 c))) := HO3.out.same (K35.block _ HO3.out.lt (by omega)) (K35.block _ HO3.out.glt (by omega))
      have HN5 : Hid (GrAt w5 bn gn W' H' N' (sizedTo W H W' G (j + 1))) := by
        refine HN3.out.with F5 K35 ?_
        have := sized_step (W := W) (H := H) (W' := W') (H' := H') (j := j) (c := c) (G := G) (K := K) hw (fun x hx => HK.out x j hx (Nat.le_refl _) (by omega)) (by omega) hc1 (by omega)
        rw [hm, hm'] at this
        exact this
      have K5 : Keep (fun i => i = g) w w5 := K3.trans K35 (fun i hi h => by omega)
      clear hrun FN3 F5 K35 HF3 HN3 HO3 K3
      go_wp2_with fail
      refine ⟨⟨j + 1, unlin W (partF (lin W K) m W 0 c), by omega, by simp, HO5.out, fun x y hx hy hyH => ?_, ?_, K5⟩, by simp only [intOf]; omega⟩
      · rw [← hm, part_rest (by omega) hx (by omega)]
        exact HK.out x y hx (by omega) hyH
      · rw [hN']; exact HN5.out
    · have hjl : j = l := by omega
      subst hjl
      have n0 := HN1.out.c0
      have n1 := HN1.out.c1
      have n2 := HN1.out.c2
      have o0 := HO1.out.c0
      have o1 := HO1.out.c1
      have o2 := HO1.out.c2
      have fz := frozen_of_block HO1.out.blk
      have hbb : bn ≠ bg := by omega
      go_wp2_with fail
      go_end0
      have hgb : gn ≠ bg := by omega
      refine ⟨gn, rfl, GrAt.congr (G := sizedTo W H W' G j) ⟨?_, ?_, rfl, by omega, w1, w2, h1, h2⟩ (sized_all G (by omega)), ?_, hgn⟩
      · rw [heap_set_same (heap_set_same (heap_set_same HO1.out.blk 0 _) 1 _) 2 _]; rfl
      · refine HN1.out.grid.same ?_
        rw [Go.RowKit.Below.heap_setCell _ _ _ _ hgb, Go.RowKit.Below.heap_setCell _ _ _ _ hgb, Go.RowKit.Below.heap_setCell _ _ _ _ hgb]
      · have Kq : Keep (fun i => i = bg ∨ i = g) w wr := hKp.mono (fun _ h => Or.inr h)
        exact ((Kq.setCell ⟨bg, 0, none⟩ _ (fun _ => Or.inl rfl)).setCell ⟨bg, 1, none⟩ _ (fun _ => Or.inl rfl)).setCell ⟨bg, 2, none⟩ _ (fun _ => Or.inl rfl)
end Go.Proofs.YtknhohbepkapdaaDoor

/- Grids of cells: copying into another size. -/
namespace Go.Proofs.YtknhohbepkapdaaDoor
/-- The lines ahead of y, and the columns ahead of x in it, have been copied. -/
def cp (W H : Nat) (G : Nat → Nat → Cel) (x y : Nat) : Nat → Nat → Cel := fun a b => if (b < y ∨ (b = y ∧ a < x)) ∧ a < W ∧ b < H then G a b else blk Pn.plain
theorem cp_start (W H : Nat) (G : Nat → Nat → Cel) : cp W H G 0 0 = fun _ _ => blk Pn.plain := by
  funext a b; unfold cp; exact if_neg (by omega)
theorem cp_put (W H W' H' : Nat) (G : Nat → Nat → Cel) (x y : Nat) (hx : x < W) (hy : y < H) : EqOn W' H' (upd (cp W H G x y) x y (G x y)) (cp W H G (x + 1) y) := by
  intro a b _ _
  unfold cp upd
  by_cases e : a = x ∧ b = y
  · obtain ⟨rfl, rfl⟩ := e
    rw [if_pos ⟨rfl, rfl⟩, if_pos (by omega)]
  · rw [if_neg e]
    show (if (b < y ∨ (b = y ∧ a < x)) ∧ a < W ∧ b < H then G a b else blk Pn.plain) = _
    by_cases c : (b < y ∨ (b = y ∧ a < x)) ∧ a < W ∧ b < H
    · rw [if_pos c, if_pos (by omega)]
    · rw [if_neg c, if_neg (by omega)]
theorem cp_line (W H W' H' : Nat) (G : Nat → Nat → Cel) (x y : Nat) (h : W ≤ x ∨ W' ≤ x) : EqOn W' H' (cp W H G x y) (cp W H G 0 (y + 1)) := by
  intro a b ha _
  unfold cp
  by_cases c : (b < y ∨ (b = y ∧ a < x)) ∧ a < W ∧ b < H
  · rw [if_pos c, if_pos (by omega)]
  · rw [if_neg c, if_neg (by omega)]
theorem cp_all (W H W' H' : Nat) (G : Nat → Nat → Cel) (y : Nat) (h : H ≤ y ∨ H' ≤ y) : EqOn W' H' (cp W H G 0 y) (fun a b => if a < W ∧ b < H then G a b else blk Pn.plain) := by
  intro a b _ hb
  unfold cp
  show _ = if a < W ∧ b < H then G a b else blk Pn.plain
  by_cases c : a < W ∧ b < H
  · rw [if_pos (by omega), if_pos c]
  · rw [if_neg (by omega), if_neg c]
theorem lastG_congr {W H : Nat} {G K : Nat → Nat → Cel} (h : EqOn W H G K) : EqOn W H (lastG W G) (lastG W K) := by
  intro a b ha hb
  unfold lastG
  rw [h a b ha hb]
theorem Aw.congr {W H : Nat} {G K : Nat → Nat → Cel} (h : Aw W H G) (e : EqOn W H G K) : Aw W H K := by
  refine ⟨fun x y hx hy hp => ?_, fun x y hx hy hp => ?_⟩
  · rw [← e x y (by omega) hy] at hp; rw [← e _ _ hx hy]; exact h.head x y hx hy hp
  · rw [← e x y hx hy] at hp
    obtain ⟨a, b⟩ := h.tail x y hx hy hp
    exact ⟨a, by rw [← e _ _ (by omega) hy]; exact b⟩
end Go.Proofs.YtknhohbepkapdaaDoor

/- The document's screen: its state. -/
namespace Go.Proofs.YtknhohbepkapdaaDoor
open Wd (wd)
structure Rs where
  W : Nat
  H : Nat
  x : Int
  y : Int
  pend : Bool
  pen : Pn
  top : Int
  bot : Int
  B : ByteArray
  odd : Int
  G : Nat → Nat → Cel
/-- What holds of a screen. -/
structure Rs.Ok (s : Rs) : Prop where
  w1 : 1 ≤ s.W
  w2 : s.W ≤ 40
  h1 : 1 ≤ s.H
  h2 : s.H ≤ 20
  x0 : 0 ≤ s.x
  x1 : s.x < s.W
  y0 : 0 ≤ s.y
  y1 : s.y < s.H
  t0 : 0 ≤ s.top
  tb : s.top ≤ s.bot
  b1 : s.bot < s.H
  pd : s.pend = true → s.x = (s.W : Int) - 1
  wf : Wf s.W s.H s.G
def clampI (v : Int) (m : Nat) : Int := if v < 0 then 0 else if (m : Int) - 1 < v then (m : Int) - 1 else v
theorem clampI_in (v : Int) (m : Nat) (h : 1 ≤ m) : 0 ≤ clampI v m ∧ clampI v m < m := by 
  unfold clampI
  by_cases h1 : v < 0
  · rw [if_pos h1]; omega
  · rw [if_neg h1]
    by_cases h2 : (m : Int) - 1 < v
    · rw [if_pos h2]; omega
    · rw [if_neg h2]; omega
def goesR (s : Rs) (x y : Int) : Rs := { s with x := clampI x s.W, y := clampI y s.H, pend := false }
def backR (s : Rs) : Pn := ⟨0, s.pen.b, false, false, false⟩
def linefeedR (s : Rs) : Rs := if s.y = s.bot then { s with G := scrollG s.top s.bot 1 (backR s) s.G, pend := false } else goesR s s.x (s.y + 1)
/-- The struct's cells. -/
abbrev scrArr (bc : Nat) (s : Rs) : Array Value := #[.pointer (some ⟨bc, 0, none⟩), .int .i64 s.W, .int .i64 s.H, .int .i64 s.x, .int .i64 s.y, .bool s.pend, .int .i64 s.pen.f, .int .i64 s.pen.b, .bool s.pen.bo, .bool s.pen.un, .bool s.pen.re, .int .i64 s.top, .int .i64 s.bot, .bool false, .string s.B, .int .i64 s.odd]
/-- The document's screen lies in blocks bs, bc, g. -/
structure RefAt (w : World) (bs bc g cap N : Nat) (s : Rs) : Prop where
  blk : w.heap[bs]? = some (.cells (scrArr bc s) 69)
  cels : Cels w bc g cap s.W s.H N s.G
  ne1 : bs ≠ bc
  ne2 : bs ≠ g
section
variable {w w' : World} {bs bc g cap N : Nat} {s : Rs}
theorem RefAt.lt (h : RefAt w bs bc g cap N s) : bs < w.heap.size := (Array.getElem?_eq_some_iff.1 h.blk).1
theorem RefAt.same (h : RefAt w bs bc g cap N s) (h1 : w'.heap[bs]? = w.heap[bs]?) (h2 : w'.heap[bc]? = w.heap[bc]?) (h3 : w'.heap[g]? = w.heap[g]?) : RefAt w' bs bc g cap N s :=
  ⟨by rw [h1]; exact h.blk, h.cels.same h2 h3, h.ne1, h.ne2⟩
theorem RefAt.below (h : RefAt w bs bc g cap N s) (hb : Go.RowKit.Below w.heap.size w w') : RefAt w' bs bc g cap N s :=
  h.same (hb.block _ h.lt) (hb.block _ h.cels.lt) (hb.block _ h.cels.glt)
theorem RefAt.free (h : RefAt w bs bc g cap N s) : ∀ o, w.frozen? ⟨bs, o, none⟩ = false := frozen_of_block h.blk
theorem RefAt.drew (h : RefAt w bs bc g cap N s) : RefAt w.drew bs bc g cap N s := h.same rfl rfl rfl
theorem RefAt.store (h : RefAt w bs bc g cap N s) (o : Nat) (v : Value) (s' : Rs) (hs : (scrArr bc s).setIfInBounds o v = scrArr bc s') (hW : s'.W = s.W) (hH : s'.H = s.H) (hG : s'.G = s.G) : RefAt (w.setCell ⟨bs, o, none⟩ v) bs bc g cap N s' := by
  refine ⟨?_, ?_, h.ne1, h.ne2⟩
  · rw [heap_set_same h.blk, hs]
  · rw [hW, hH, hG]
    exact h.cels.same (Go.RowKit.Below.heap_setCell _ _ _ _ (fun e => h.ne1 e.symm)) (Go.RowKit.Below.heap_setCell _ _ _ _ (fun e => h.ne2 e.symm))
/-- The cells change, and nothing else. -/
theorem RefAt.cells {g' cap' : Nat} (h : RefAt w bs bc g cap N s) (s' : Rs) (hb : w'.heap[bs]? = w.heap[bs]?) (hc : Cels w' bc g' cap' s'.W s'.H N s'.G) (hs : scrArr bc s' = scrArr bc s) (hg : bs ≠ g') : RefAt w' bs bc g' cap' N s' :=
  ⟨by rw [hb, hs]; exact h.blk, hc, h.ne1, hg⟩
theorem RefAt.f0 (h : RefAt w bs bc g cap N s) : w.cell? ⟨bs, 0, none⟩ = some (.pointer (some ⟨bc, 0, none⟩)) := cell_of_block h.blk 0
theorem RefAt.f1 (h : RefAt w bs bc g cap N s) : w.cell? ⟨bs, 1, none⟩ = some (.int .i64 s.W) := cell_of_block h.blk 1
theorem RefAt.f2 (h : RefAt w bs bc g cap N s) : w.cell? ⟨bs, 2, none⟩ = some (.int .i64 s.H) := cell_of_block h.blk 2
theorem RefAt.f3 (h : RefAt w bs bc g cap N s) : w.cell? ⟨bs, 3, none⟩ = some (.int .i64 s.x) := cell_of_block h.blk 3
theorem RefAt.f4 (h : RefAt w bs bc g cap N s) : w.cell? ⟨bs, 4, none⟩ = some (.int .i64 s.y) := cell_of_block h.blk 4
theorem RefAt.f5 (h : RefAt w bs bc g cap N s) : w.cell? ⟨bs, 5, none⟩ = some (.bool s.pend) := cell_of_block h.blk 5
theorem RefAt.f6 (h : RefAt w bs bc g cap N s) : w.cell? ⟨bs, 6, none⟩ = some (.int .i64 s.pen.f) := cell_of_block h.blk 6
theorem RefAt.f7 (h : RefAt w bs bc g cap N s) : w.cell? ⟨bs, 7, none⟩ = some (.int .i64 s.pen.b) := cell_of_block h.blk 7
theorem RefAt.f8 (h : RefAt w bs bc g cap N s) : w.cell? ⟨bs, 8, none⟩ = some (.bool s.pen.bo) := cell_of_block h.blk 8
theorem RefAt.f9 (h : RefAt w bs bc g cap N s) : w.cell? ⟨bs, 9, none⟩ = some (.bool s.pen.un) := cell_of_block h.blk 9
theorem RefAt.f10 (h : RefAt w bs bc g cap N s) : w.cell? ⟨bs, 10, none⟩ = some (.bool s.pen.re) := cell_of_block h.blk 10
theorem RefAt.f11 (h : RefAt w bs bc g cap N s) : w.cell? ⟨bs, 11, none⟩ = some (.int .i64 s.top) := cell_of_block h.blk 11
theorem RefAt.f12 (h : RefAt w bs bc g cap N s) : w.cell? ⟨bs, 12, none⟩ = some (.int .i64 s.bot) := cell_of_block h.blk 12
theorem RefAt.f13 (h : RefAt w bs bc g cap N s) : w.cell? ⟨bs, 13, none⟩ = some (.bool false) := cell_of_block h.blk 13
theorem RefAt.f14 (h : RefAt w bs bc g cap N s) : w.cell? ⟨bs, 14, none⟩ = some (.string s.B) := cell_of_block h.blk 14
theorem RefAt.f15 (h : RefAt w bs bc g cap N s) : w.cell? ⟨bs, 15, none⟩ = some (.int .i64 s.odd) := cell_of_block h.blk 15
theorem RefAt.setX (h : RefAt w bs bc g cap N s) (v : Int) : RefAt (w.setCell ⟨bs, 3, none⟩ (.int .i64 v)) bs bc g cap N { s with x := v } := h.store 3 _ { s with x := v } rfl rfl rfl rfl
theorem RefAt.setY (h : RefAt w bs bc g cap N s) (v : Int) : RefAt (w.setCell ⟨bs, 4, none⟩ (.int .i64 v)) bs bc g cap N { s with y := v } := h.store 4 _ { s with y := v } rfl rfl rfl rfl
theorem RefAt.setPend (h : RefAt w bs bc g cap N s) (v : Bool) : RefAt (w.setCell ⟨bs, 5, none⟩ (.bool v)) bs bc g cap N { s with pend := v } := h.store 5 _ { s with pend := v } rfl rfl rfl rfl
theorem RefAt.setTop (h : RefAt w bs bc g cap N s) (v : Int) : RefAt (w.setCell ⟨bs, 11, none⟩ (.int .i64 v)) bs bc g cap N { s with top := v } := h.store 11 _ { s with top := v } rfl rfl rfl rfl
theorem RefAt.setBot (h : RefAt w bs bc g cap N s) (v : Int) : RefAt (w.setCell ⟨bs, 12, none⟩ (.int .i64 v)) bs bc g cap N { s with bot := v } := h.store 12 _ { s with bot := v } rfl rfl rfl rfl
theorem RefAt.setB (h : RefAt w bs bc g cap N s) (v : ByteArray) : RefAt (w.setCell ⟨bs, 14, none⟩ (.string v)) bs bc g cap N { s with B := v } := h.store 14 _ { s with B := v } rfl rfl rfl rfl
theorem RefAt.setOdd (h : RefAt w bs bc g cap N s) (v : Int) : RefAt (w.setCell ⟨bs, 15, none⟩ (.int .i64 v)) bs bc g cap N { s with odd := v } := h.store 15 _ { s with odd := v } rfl rfl rfl rfl
theorem RefAt.setXYP (h : RefAt w bs bc g cap N s) (a b : Int) : RefAt (((w.setCell ⟨bs, 3, none⟩ (.int .i64 a)).setCell ⟨bs, 4, none⟩ (.int .i64 b)).setCell ⟨bs, 5, none⟩ (.bool false)) bs bc g cap N { s with x := a, y := b, pend := false } :=
  ((h.setX a).setY b).setPend false
theorem keep_xyp (w : World) (bs : Nat) (a b c : Value) : Keep (fun i => i = bs) w (((w.setCell ⟨bs, 3, none⟩ a).setCell ⟨bs, 4, none⟩ b).setCell ⟨bs, 5, none⟩ c) :=
  (((Keep.refl (fun i => i = bs) w).setCell ⟨bs, 3, none⟩ a (fun _ => rfl)).setCell ⟨bs, 4, none⟩ b (fun _ => rfl)).setCell ⟨bs, 5, none⟩ c (fun _ => rfl)
theorem RefAt.drewN (h : RefAt w bs bc g cap N s) (n : Nat) : RefAt (w.drewN n) bs bc g cap N s := h.same rfl rfl rfl
end
/-- What a call leaves: a result, and the screen. -/
def RPost (bs bc g : Nat) (w : World) (s : Rs) (r : Value) (e : Ending) (w' : World) : Prop :=
  ∃ g' cap' N', e = .returned r ∧ RefAt w' bs bc g' cap' N' s ∧ Keep (fun i => i = bs ∨ i = bc ∨ i = g) w w' ∧ (g' = g ∨ w.heap.size ≤ g')
theorem rpost {bs bc g g' cap' N' : Nat} {w w' : World} {s : Rs} {r : Value} (h : RefAt w' bs bc g' cap' N' s) (k : Keep (fun i => i = bs ∨ i = bc ∨ i = g) w w') (hg : g' = g ∨ w.heap.size ≤ g') : RPost bs bc g w s r (.returned r) w' := ⟨g', cap', N', rfl, h, k, hg⟩
end Go.Proofs.YtknhohbepkapdaaDoor

/- The document's screen: put. -/
namespace Go.Proofs.YtknhohbepkapdaaDoor
open Wd (wd)
/-- The letter that is put, and its width, on a screen of W columns. -/
def effR (W : Nat) (r : Int) : Int := if wd r = 2 ∧ W = 1 then 32 else r
def effW (W : Nat) (r : Int) : Int := if wd r = 2 ∧ W = 1 then 1 else wd r
/-- Does the letter begin a line? -/
def wraps (s : Rs) (k : Int) : Bool := s.pend || (decide (k = 2) && decide (s.x = (s.W : Int) - 1))
def brokenR (s : Rs) (k : Int) : Rs := if wraps s k = true then linefeedR { s with x := 0 } else s
def writeR (s : Rs) (r : Int) : Rs := { s with G := writeG s.W s.H s.G s.x s.y r s.pen }
def stepR (s : Rs) (k : Int) : Rs := if (s.W : Int) ≤ s.x + k then { s with x := (s.W : Int) - 1, pend := true } else { s with x := s.x + k }
def putR (s : Rs) (r : Int) : Rs :=
  if wd r = 0 then { s with odd := Go.RowKit.wrap64 (s.odd + 1) } else stepR (writeR (brokenR s (effW s.W r)) (effR s.W r)) (effW s.W r)
theorem ok_x0' {s : Rs} (h : s.Ok) : Rs.Ok { ({ s with x := 0 } : Rs) with pend := false } := ⟨h.w1, h.w2, h.h1, h.h2, Int.le_refl 0, by have := h.w1; show (0 : Int) < s.W; omega, h.y0, h.y1, h.t0, h.tb, h.b1, (fun q => by cases q), h.wf⟩
theorem Rs.Ok.goes {s : Rs} (h : s.Ok) (x y : Int) : (goesR s x y).Ok := by
  have a := clampI_in x s.W h.w1
  have b := clampI_in y s.H h.h1
  exact ⟨h.w1, h.w2, h.h1, h.h2, a.1, a.2, b.1, b.2, h.t0, h.tb, h.b1, (fun q => by cases q), h.wf⟩
theorem ok_scroll {s : Rs} (h : s.Ok) (n : Int) (p : Pn) : Rs.Ok { s with G := scrollG s.top s.bot n p s.G } :=
  ⟨h.w1, h.w2, h.h1, h.h2, h.x0, h.x1, h.y0, h.y1, h.t0, h.tb, h.b1, h.pd, h.wf.scroll _ _ _ _ h.t0 h.b1⟩
theorem ok_pend {s : Rs} (h : s.Ok) : Rs.Ok { s with pend := false } :=
  ⟨h.w1, h.w2, h.h1, h.h2, h.x0, h.x1, h.y0, h.y1, h.t0, h.tb, h.b1, (fun q => by cases q), h.wf⟩
/-- The cursor at column 0, whatever is pending. -/
theorem ok_lf {s : Rs} (h : s.Ok) : (linefeedR { s with x := 0 }).Ok := by
  have hx : (0 : Int) < s.W := by have := h.w1; omega
  unfold linefeedR
  split
  · exact ⟨h.w1, h.w2, h.h1, h.h2, Int.le_refl 0, hx, h.y0, h.y1, h.t0, h.tb, h.b1, (fun q => by cases q), h.wf.scroll _ _ _ _ h.t0 h.b1⟩
  · have a := clampI_in 0 s.W h.w1
    have b := clampI_in (s.y + 1) s.H h.h1
    exact ⟨h.w1, h.w2, h.h1, h.h2, a.1, a.2, b.1, b.2, h.t0, h.tb, h.b1, (fun q => by cases q), h.wf⟩
theorem Rs.Ok.lf {s : Rs} (h : s.Ok) : (linefeedR s).Ok := by
  unfold linefeedR
  split
  · exact ok_pend (ok_scroll h 1 (backR s))
  · exact h.goes _ _
theorem Rs.Ok.broken {s : Rs} (h : s.Ok) (k : Int) : (brokenR s k).Ok := by
  unfold brokenR
  split
  · exact ok_lf h
  · exact h
end Go.Proofs.YtknhohbepkapdaaDoor

/- The document's screen: pens. -/
namespace Go.Proofs.YtknhohbepkapdaaDoor
/-- What a number of m does to a pen. -/
def penN (p : Pn) (n : Int) : Pn :=
  if n = 0 then Pn.plain else if n = 1 then { p with bo := true } else if n = 22 then { p with bo := false }
  else if n = 4 then { p with un := true } else if n = 24 then { p with un := false }
  else if n = 7 then { p with re := true } else if n = 27 then { p with re := false }
  else if n = 39 then { p with f := 0 } else if n = 49 then { p with b := 0 }
  else if 30 ≤ n ∧ n ≤ 37 then { p with f := n - 29 } else if 40 ≤ n ∧ n ≤ 47 then { p with b := n - 39 } else p
def penR (s : Rs) (n : Int) : Rs := { s with pen := penN s.pen n }
theorem Rs.Ok.penR {s : Rs} (h : s.Ok) (n : Int) : (penR s n).Ok := ⟨h.w1, h.w2, h.h1, h.h2, h.x0, h.x1, h.y0, h.y1, h.t0, h.tb, h.b1, h.pd, h.wf⟩
theorem RefAt.setPen {w : World} {bs bc g cap N : Nat} {s : Rs} (h : RefAt w bs bc g cap N s) (n : Pn) : RefAt (((((w.setCell ⟨bs, 6, none⟩ (.int .i64 n.f)).setCell ⟨bs, 7, none⟩ (.int .i64 n.b)).setCell ⟨bs, 8, none⟩ (.bool n.bo)).setCell ⟨bs, 9, none⟩ (.bool n.un)).setCell ⟨bs, 10, none⟩ (.bool n.re)) bs bc g cap N { s with pen := n } :=
  ((((h.store 6 _ { s with pen := { s.pen with f := n.f } } rfl rfl rfl rfl).store 7 _ { s with pen := { s.pen with f := n.f, b := n.b } } rfl rfl rfl rfl).store 8 _ { s with pen := { s.pen with f := n.f, b := n.b, bo := n.bo } } rfl rfl rfl rfl).store 9 _ { s with pen := { s.pen with f := n.f, b := n.b, bo := n.bo, un := n.un } } rfl rfl rfl rfl).store 10 _ { s with pen := n } rfl rfl rfl rfl
theorem keep_pen {F : Nat → Prop} {w w' : World} (h : Keep F w w') (bs : Nat) (hF : F bs) (a b c d e : Value) : Keep F w (((((w'.setCell ⟨bs, 6, none⟩ a).setCell ⟨bs, 7, none⟩ b).setCell ⟨bs, 8, none⟩ c).setCell ⟨bs, 9, none⟩ d).setCell ⟨bs, 10, none⟩ e) :=
  ((((h.setCell ⟨bs, 6, none⟩ a (fun _ => hF)).setCell ⟨bs, 7, none⟩ b (fun _ => hF)).setCell ⟨bs, 8, none⟩ c (fun _ => hF)).setCell ⟨bs, 9, none⟩ d (fun _ => hF)).setCell ⟨bs, 10, none⟩ e (fun _ => hF)
theorem pen_done {w : World} {bs bc g cap N : Nat} {s : Rs} (h : RefAt w bs bc g cap N s) (n : Int) (pp : Pn) (hp : penN s.pen n = pp) (arr : Array Value) (t : TypeId) :
    RPost bs bc g w (penR s n) (.tuple #[]) (.returned (.tuple #[])) ((((((w.setCell ⟨bs, 6, none⟩ (.int .i64 pp.f)).setCell ⟨bs, 7, none⟩ (.int .i64 pp.b)).setCell ⟨bs, 8, none⟩ (.bool pp.bo)).setCell ⟨bs, 9, none⟩ (.bool pp.un)).setCell ⟨bs, 10, none⟩ (.bool pp.re)).alloc (.cells arr t)) := by
  have e : penR s n = { s with pen := pp } := by unfold penR; rw [hp]
  rw [e]
  exact rpost ((h.setPen pp).below ((Go.RowKit.Below.refl _ _).alloc (Nat.le_refl _) _)) ((keep_pen (Keep.refl _ w) bs (.inl rfl) _ _ _ _ _).alloc _) (.inl rfl)
end Go.Proofs.YtknhohbepkapdaaDoor

/- The document's screen: erasing. -/
namespace Go.Proofs.YtknhohbepkapdaaDoor
open Wd (wd)
/-- Which cells are erased. -/
def eraB (how : Int) (all : Bool) (X Y : Int) : Nat → Nat → Bool := fun a b =>
  (decide (how = 2) || (decide (how = 0) && (decide (Y < b) || (decide ((b : Int) = Y) && decide (X ≤ a)))) || (decide (how = 1) && (decide ((b : Int) < Y) || (decide ((b : Int) = Y) && decide ((a : Int) ≤ X))))) && (all || decide ((b : Int) = Y))
/-- The first m cells have been looked at. -/
def eraTo (s : Rs) (how : Int) (all : Bool) (m : Nat) : Nat → Nat → Cel := wrt s.G (fun a b => eraB how all s.x s.y a b && decide (b * s.W + a < m)) (fun _ _ => blk (backR s))
def eraR (s : Rs) (how : Int) (all : Bool) : Rs := { s with G := wrt s.G (eraB how all s.x s.y) (fun _ _ => blk (backR s)) }
theorem era_no {s : Rs} (hwf : Wf s.W s.H s.G) (how : Int) (all : Bool) {x y : Nat} (hx : x < s.W) (h : eraB how all s.x s.y x y = false) : EqOn s.W s.H (eraTo s how all (y * s.W + x)) (eraTo s how all (y * s.W + x + 1)) := by
  unfold eraTo
  refine wr_dom hwf (fun a b ha hb => ?_) (fun _ _ _ _ _ => rfl)
  by_cases e : b * s.W + a = y * s.W + x
  · obtain ⟨rfl, rfl⟩ := place_inj ha hx e
    rw [h]; rfl
  · rw [Bool.eq_iff_iff]
    simp
    intro _
    omega
theorem era_yes {s : Rs} (hwf : Wf s.W s.H s.G) (how : Int) (all : Bool) {x y : Nat} (hx : x < s.W) (h : eraB how all s.x s.y x y = true) : EqOn s.W s.H (wrt (eraTo s how all (y * s.W + x)) (pt x y) (fun _ _ => blk (backR s))) (eraTo s how all (y * s.W + x + 1)) := by
  unfold eraTo
  rw [wr_wr _ _ _ _ _ (fun _ _ _ _ => rfl)]
  refine wr_dom hwf (fun a b ha hb => ?_) (fun a b _ _ _ => by simp)
  by_cases e : a = x ∧ b = y
  · obtain ⟨rfl, rfl⟩ := e
    simp [h, pt]
  · have e' : b * s.W + a ≠ y * s.W + x := fun q => e (place_inj ha hx q)
    have hp : pt x y a b = false := by
      cases hq : pt x y a b with
      | false => rfl
      | true => exact absurd (pt_iff.1 hq) e
    rw [hp, Bool.or_false, Bool.eq_iff_iff]
    simp
    intro _
    omega
theorem era_all {s : Rs} (hwf : Wf s.W s.H s.G) (how : Int) (all : Bool) : EqOn s.W s.H (eraTo s how all (s.H * s.W)) (eraR s how all).G := by
  unfold eraTo eraR
  refine wr_dom hwf (fun a b ha hb => ?_) (fun _ _ _ _ _ => rfl)
  have := place_lt ha hb
  simp [this]
theorem era_none (s : Rs) (how : Int) (all : Bool) : eraTo s how all 0 = s.G := by
  unfold eraTo; exact wr_none _ _ _ (fun a b => by simp)
theorem era_wf {s : Rs} (hwf : Wf s.W s.H s.G) (how : Int) (all : Bool) (m : Nat) : Wf s.W s.H (eraTo s how all m) := hwf.blk _ _
theorem Rs.Ok.era {s : Rs} (h : s.Ok) (how : Int) (all : Bool) : (eraR s how all).Ok := ⟨h.w1, h.w2, h.h1, h.h2, h.x0, h.x1, h.y0, h.y1, h.t0, h.tb, h.b1, h.pd, h.wf.blk _ _⟩
end Go.Proofs.YtknhohbepkapdaaDoor

/- The numbers of a sequence: plain mathematics, and rows of integers. -/
namespace Go.Proofs.YtknhohbepkapdaaDoor
open Go.RowKit
/-- The last number of a list is another one. -/
def setLast (l : List Int) (v : Int) : List Int := l.set (l.length - 1) v
def lastOf (l : List Int) : Int := l.getD (l.length - 1) 0
def capN (n : Int) : Int := if 9999 < n then 9999 else n
def begunL (l : List Int) : List Int := if l = [] then [0] else l
/-- One byte of a sequence; none: it is bad. -/
def numStep (l : List Int) (c : Int) : Option (List Int) :=
  if c = 59 then some (begunL l ++ [0]) else if 48 ≤ c ∧ c ≤ 57 then some (setLast (begunL l) (capN (10 * lastOf (begunL l) + (c - 48)))) else none
def numsTo : List UInt8 → List Int → Option (List Int)
  | [], l => some l
  | c :: r, l => match numStep l c.toNat with
    | none => none
    | some k => numsTo r k
def nums (b : ByteArray) : Option (List Int) := numsTo b.data.toList []
theorem numsTo_append (a b : List UInt8) (l : List Int) : numsTo (a ++ b) l = match numsTo a l with
    | none => none
    | some k => numsTo b k := by
  induction a generalizing l with
  | nil => rfl
  | cons c r ih =>
    simp only [List.cons_append, numsTo]
    cases numStep l c.toNat with
    | none => rfl
    | some k => exact ih k
theorem numsTo_snoc (a : List UInt8) (c : UInt8) (l k : List Int) (h : numsTo a l = some k) : numsTo (a ++ [c]) l = numStep k c.toNat := by
  rw [numsTo_append, h]
  simp only [numsTo]
  cases numStep k c.toNat <;> rfl
theorem take_snoc (s : ByteArray) (k : Nat) (h : k < s.size) : s.data.toList.take (k + 1) = s.data.toList.take k ++ [s[k]] := by
  rw [List.take_succ_eq_append_getElem (by simpa using h)]; rfl
theorem nums_bad (b : ByteArray) (k : Nat) (hk : k < b.size) (l : List Int) (h : numsTo (b.data.toList.take k) [] = some l) (hb : numStep l b[k].toNat = none) : nums b = none := by
  unfold nums
  rw [← List.take_append_drop (k + 1) b.data.toList, take_snoc b k hk, numsTo_append, numsTo_snoc _ _ _ _ h, hb]
/-- Numbers stay small. -/
def Small (l : List Int) : Prop := ∀ i, 0 ≤ l.getD i 0 ∧ l.getD i 0 ≤ 9999
theorem small_nil : Small [] := fun i => by simp
theorem small_begun {l : List Int} (h : Small l) : Small (begunL l) := by
  unfold begunL
  split
  · intro i; cases i <;> simp
  · exact h
theorem small_snoc {l : List Int} (h : Small l) : Small (l ++ [0]) := by
  intro i
  have := h i
  simp only [List.getD_eq_getElem?_getD] at *
  by_cases hi : i < l.length
  · rw [List.getElem?_append_left hi]; exact this
  · rw [List.getElem?_append_right (by omega)]
    cases i - l.length <;> simp
theorem small_set {l : List Int} (h : Small l) (j : Nat) (v : Int) (h0 : 0 ≤ v) (h1 : v ≤ 9999) : Small (l.set j v) := by
  intro i
  have := h i
  simp only [List.getD_eq_getElem?_getD, List.getElem?_set] at *
  by_cases e : j = i
  · subst e
    by_cases hj : j < l.length
    · simp [hj, h0, h1]
    · simp [hj]
  · simp [e]; exact this
theorem begun_len (l : List Int) : 1 ≤ (begunL l).length := by
  unfold begunL
  split
  · simp
  · cases l with
    | nil => simp_all
    | cons => simp
/-- Integers as values. -/
def ivals (l : List Int) : List Value := l.map (fun n => Value.int .i64 n)
theorem ivals_append (a b : List Int) : ivals (a ++ b) = ivals a ++ ivals b := by simp [ivals]
theorem irow_cell {w : World} {base g n cap : Nat} {l : List Int} {t : TypeId} (h : w.ownsRow base t 1 (.slice (some ⟨g, 0, none⟩) n cap) n (ivals l)) (i : Nat) (hi : i < l.length) : w.cell? ⟨g, i, none⟩ = some (.int .i64 (l.getD i 0)) := by
  obtain ⟨hl, h | ⟨g', cap', cur, hv, hb, hg, hn, hm, hs, ht⟩⟩ := h
  · simp at h
  · simp at hv
    obtain ⟨rfl, rfl⟩ := hv
    rw [cell_of_block hg]
    have a : (ivals l)[i]? = some (.int .i64 (l.getD i 0)) := by
      simp [ivals, hi]
    rw [← ht] at a
    have hlt : i < n * 1 := by simp [ivals] at hl; omega
    rw [List.getElem?_take_of_lt hlt] at a
    simpa using a
theorem irow_free {w : World} {base g n cap : Nat} {xs : List Value} {t : TypeId} (h : w.ownsRow base t 1 (.slice (some ⟨g, 0, none⟩) n cap) n xs) (o : Nat) : w.frozen? ⟨g, o, none⟩ = false := by
  obtain ⟨hl, h | ⟨g', cap', cur, hv, hb, hg, hn, hm, hs, ht⟩⟩ := h
  · simp at h
  · simp at hv
    obtain ⟨rfl, rfl⟩ := hv
    exact frozen_of_block hg o
theorem irow_set {w : World} {base g n cap : Nat} {l : List Int} {t : TypeId} (h : w.ownsRow base t 1 (.slice (some ⟨g, 0, none⟩) n cap) n (ivals l)) (i : Nat) (v : Int) : (w.setCell ⟨g, i, none⟩ (.int .i64 v)).ownsRow base t 1 (.slice (some ⟨g, 0, none⟩) n cap) n (ivals (l.set i v)) := by
  obtain ⟨hl, h | ⟨g', cap', cur, hv, hb, hg, hn, hm, hs, ht⟩⟩ := h
  · simp at h
  · simp at hv
    obtain ⟨rfl, rfl⟩ := hv
    refine ⟨by simp [ivals] at hl ⊢; exact hl, .inr ⟨g, cap, cur.setIfInBounds i (.int .i64 v), rfl, hb, heap_set_same hg _ _, hn, hm, by simpa using hs, ?_⟩⟩
    have e : ivals (l.set i v) = (ivals l).set i (.int .i64 v) := by simp [ivals, List.map_set]
    rw [e, ← ht]
    simp [List.take_set]
theorem irow_same {w w' : World} {base : Nat} {v : Value} {n : Nat} {xs : List Value} {t : TypeId} (h : w.ownsRow base t 1 v n xs) (hb : ∀ g, v.ownBlock = some g → w'.heap[g]? = w.heap[g]?) : w'.ownsRow base t 1 v n xs := by
  obtain ⟨hl, h | ⟨g', cap', cur, rfl, hb', hg, rest⟩⟩ := h
  · exact ⟨hl, .inl h⟩
  · exact ⟨hl, .inr ⟨g', cap', cur, rfl, hb', by rw [hb g' rfl]; exact hg, rest⟩⟩
end Go.Proofs.YtknhohbepkapdaaDoor

/- The document's screen: sequences. -/
namespace Go.Proofs.YtknhohbepkapdaaDoor
open Go.RowKit
def oddR (s : Rs) : Rs := { s with odd := wrap64 (s.odd + 1) }
def one1 (n : Int) : Int := if n = 0 then 1 else n
def lowR2 (H : Nat) (k : Int) : Int := if k = 0 ∨ (H : Int) < k then H else k
def marginsR (s : Rs) (n k : Int) : Rs := if n < lowR2 s.H k ∨ (s.H = 1 ∧ n = 1) then goesR { s with top := n - 1, bot := lowR2 s.H k - 1 } 0 0 else s
def pensR (s : Rs) (l : List Int) : Rs := { s with pen := l.foldl penN s.pen }
/-- A sequence that is not bad is done. -/
def doneR (s : Rs) (l : List Int) (last : Int) : Rs :=
  let first := l.getD 0 0
  let second := l.getD 1 0
  let n := one1 first
  if last = 65 then goesR s s.x (s.y - n) else if last = 66 then goesR s s.x (s.y + n) else if last = 67 then goesR s (s.x + n) s.y else if last = 68 then goesR s (s.x - n) s.y
  else if last = 72 then goesR s (one1 second - 1) (n - 1) else if last = 75 then eraR s first false else if last = 74 then eraR s first true
  else if last = 88 then { s with G := wrt s.G (rg s.x (s.x + n) s.y.toNat) (fun _ _ => blk (backR s)) }
  else if last = 83 then { s with G := scrollG s.top s.bot n (backR s) s.G } else if last = 84 then { s with G := scrollG s.top s.bot (-n) (backR s) s.G }
  else if last = 114 then marginsR s n second else if last = 109 then pensR s (begunL l) else oddR s
def seqR (s : Rs) (b : ByteArray) (last : Int) : Rs := match nums b with
  | none => oddR s
  | some l => if l.length ≤ 8 then doneR s l last else oddR s
end Go.Proofs.YtknhohbepkapdaaDoor

/- Letters in bytes: plain mathematics. -/
namespace Go.Proofs.YtknhohbepkapdaaDoor
/-- How many bytes a letter has that begins so. -/
def longR (c : Int) : Int := if 194 ≤ c ∧ c ≤ 223 then 2 else if 224 ≤ c ∧ c ≤ 239 then 3 else if 240 ≤ c ∧ c ≤ 244 then 4 else 0
/-- Within which bounds a letter goes on that has begun with one byte. -/
def lowR (a : Int) : Int := if a = 224 then 160 else if a = 240 then 144 else 128
def highR (a : Int) : Int := if a = 237 then 159 else if a = 244 then 143 else 191
/-- Can a letter that has come so far go on with a byte? -/
def goesOnB (b : List UInt8) (c : Int) : Bool := match b with
  | [a] => decide (lowR a.toNat ≤ c) && decide (c ≤ highR a.toNat)
  | _ => decide (128 ≤ c) && decide (c ≤ 191)
/-- The code point of a letter's bytes. -/
def letterR (b : List UInt8) : Int := match b with
  | [a, b] => 64 * ((a.toNat : Int) - 192) + b.toNat - 128
  | [a, b, c] => 64 * (64 * ((a.toNat : Int) - 224) + b.toNat - 128) + c.toNat - 128
  | [a, b, c, d] => 64 * (64 * (64 * ((a.toNat : Int) - 240) + b.toNat - 128) + c.toNat - 128) + d.toNat - 128
  | _ => 0
end Go.Proofs.YtknhohbepkapdaaDoor

/- The document's screen: bytes. -/
namespace Go.Proofs.YtknhohbepkapdaaDoor
/-- A byte in the ground state, while no letter is begun. -/
def groundR (s : Rs) (c : UInt8) : Rs :=
  if (c.toNat : Int) = 13 then goesR s 0 s.y else if (c.toNat : Int) = 10 then linefeedR s else if (c.toNat : Int) = 8 then goesR s (s.x - 1) s.y
  else if (c.toNat : Int) = 27 then { s with B := ⟨#[27]⟩ } else if 32 ≤ (c.toNat : Int) ∧ (c.toNat : Int) ≤ 126 then putR s c.toNat
  else if 0 < longR c.toNat then { s with B := ⟨#[c]⟩ } else oddR s
end Go.Proofs.YtknhohbepkapdaaDoor
