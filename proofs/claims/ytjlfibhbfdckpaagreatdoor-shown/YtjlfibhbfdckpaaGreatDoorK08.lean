/- Texts of the proof, one behind the other: PgL, PgM, PsA, DkM. -/
import Derived.Test.YtjlfibhbfdckpaaGreatDoorK02
import Derived.Test.YtjlfibhbfdckpaaGreatDoorK05
import Derived.Test.YtjlfibhbfdckpaaGreatDoorK07
import Derived.Deep.AppendLies
/- The program's grid: Scroll is scrollG. -/
namespace Go.Proofs.YtjlfibhbfdckpaaGreatDoor
open Go.RowKit
theorem place_cmp {W x : Nat} (y t : Nat) (hx : x < W) : y * W + x < t * W ↔ y < t := by
  constructor
  · intro h
    rcases Nat.lt_or_ge y t with l | l
    · exact l
    · have := Nat.mul_le_mul_right W l; omega
  · intro h
    have := Nat.mul_le_mul_right W (show y + 1 ≤ t from h)
    rw [Nat.add_mul] at this; omega
theorem scroll_eq {W H : Nat} (G : Nat → Nat → Cel) (top bot m k c : Nat) (n b s : Int) (p : Pn) (hW : 1 ≤ W) (ht : top ≤ bot) (hc : top + c = bot + 1) (hm : top * W = m) (hk : c * W = k) (hbt : betweenI n (-c) c = b) (hs : b * W = s) :
    EqOn W H (unlin W (scrollF (lin W G) m k s p)) (scrollG top bot n p G) := by
  have hb1 : -(c : Int) ≤ b ∧ b ≤ c ∧ (b = n ∨ (n < b ∧ b = -(c : Int)) ∨ (b < n ∧ b = c)) := by
    rw [← hbt]; unfold betweenI greatestI leastI; split <;> split <;> omega
  obtain ⟨hb1, hb2, hb3⟩ := hb1
  intro x y hx _
  have C := fun t => place_cmp (W := W) (x := x) y t hx
  have hmk : m + k = (bot + 1) * W := by rw [← hm, ← hk, ← Nat.add_mul, hc]
  unfold unlin scrollF scrollG
  have c1 := C top
  have c2 := C (bot + 1)
  rw [hm] at c1
  rw [← hmk] at c2
  by_cases h0 : 0 ≤ b
  · obtain ⟨d, rfl⟩ := Int.eq_ofNat_of_zero_le h0
    have hs' : s = ((d * W : Nat) : Int) := by rw [← hs]; simp
    have hs0 : 0 ≤ s := by omega
    rw [if_pos hs0, hs', Int.toNat_natCast]
    have hz : k - d * W = (c - d) * W := by rw [← hk, Nat.sub_mul]
    have hz2 : m + (c - d) * W = (top + (c - d)) * W := by rw [Nat.add_mul, hm]
    have c3 := C (top + (c - d))
    have hdk : d * W ≤ k := by rw [← hk]; exact Nat.mul_le_mul_right W (by omega)
    rw [hz]
    unfold fillF copyF
    by_cases a1 : top ≤ y ∧ y ≤ bot
    · rw [if_pos (show (top : Int) ≤ y ∧ (y : Int) ≤ bot by omega)]
      by_cases a2 : y < top + (c - d)
      · rw [if_neg (by omega), if_pos (by omega)]
        have e : m + d * W + (y * W + x - m) = (y + d) * W + x := by rw [Nat.add_mul]; omega
        rw [e, lin_at G (y + d) hx]
        have hn : n = d := by omega
        rw [if_pos (by omega), hn, show ((y : Int) + d).toNat = y + d by omega]
      · rw [if_pos (by omega), if_neg (by omega)]
    · rw [if_neg (show ¬ ((top : Int) ≤ y ∧ (y : Int) ≤ bot) by omega), if_neg (by omega), if_neg (by omega), lin_at G y hx]
  · obtain ⟨d, hd⟩ : ∃ d : Nat, b = -(d : Int) := ⟨(-b).toNat, by omega⟩
    subst hd
    have hd1 : 1 ≤ d := by omega
    have hs' : s = -((d * W : Nat) : Int) := by rw [← hs]; simp [Int.neg_mul]
    have hdW := Nat.mul_le_mul hd1 hW
    rw [if_neg (by omega), hs', Int.neg_neg, Int.toNat_natCast]
    have hz : k - d * W = (c - d) * W := by rw [← hk, Nat.sub_mul]
    have hz2 : m + d * W = (top + d) * W := by rw [Nat.add_mul, hm]
    have c3 := C (top + d)
    have hdk : d * W ≤ k := by rw [← hk]; exact Nat.mul_le_mul_right W (by omega)
    unfold fillF copyF
    by_cases a1 : top ≤ y ∧ y ≤ bot
    · rw [if_pos (show (top : Int) ≤ y ∧ (y : Int) ≤ bot by omega)]
      by_cases a2 : y < top + d
      · rw [if_pos (by omega), if_neg (by omega)]
      · rw [if_neg (by omega), if_pos (by omega)]
        have e : m + (y * W + x - (m + d * W)) = (y - d) * W + x := by rw [Nat.sub_mul]; have := Nat.mul_le_mul_right W (show d ≤ y by omega); omega
        rw [e, lin_at G (y - d) hx]
        have hn : n = -(d : Int) := by omega
        rw [if_pos (by omega), hn, show ((y : Int) + -(d : Int)).toNat = y - d by omega]
    · rw [if_neg (show ¬ ((top : Int) ≤ y ∧ (y : Int) ≤ bot) by omega), if_neg (by omega), if_neg (by omega), lin_at G y hx]
theorem pScrollG (bg g W H N : Nat) (G : Nat → Nat → Cel) (top bot n : Int) (p : Pn) (w : World) (h : GrAt w bg g W H N G) (h0 : 0 ≤ top) (ht : top ≤ bot) (hb : bot < H) :
    Calls Tryz.prog 141 #[.pointer (some ⟨bg, 0, none⟩), .int .i64 top, .int .i64 bot, .int .i64 n, p.agg] w fun e w' => e = .returned (.tuple #[]) ∧ GrAt w' bg g W H N (scrollG top bot n p G) ∧ Keep (fun i => i = g) w w' := by
  obtain ⟨t, rfl⟩ := Int.eq_ofNat_of_zero_le h0
  obtain ⟨b, rfl⟩ := Int.eq_ofNat_of_zero_le (Int.le_trans h0 ht)
  obtain ⟨c, hc⟩ : ∃ c, t + c = b + 1 := ⟨b + 1 - t, by omega⟩
  refine (pScroll bg g W H N G t b _ _ c n _ _ p w h (by omega) (by omega) hc rfl rfl ?_ rfl rfl).mono ?_
  · exact Nat.mul_pos (by omega) h.w1
  · rintro e w' ⟨rfl, F, K⟩
    exact ⟨rfl, h.with F K (scroll_eq G t b _ _ c n _ _ p h.w1 (by omega) hc rfl rfl rfl rfl), K⟩
end Go.Proofs.YtjlfibhbfdckpaaGreatDoor

/- The program's grid: Resize. -/
namespace Go.Proofs.YtjlfibhbfdckpaaGreatDoor
open Go.RowKit
attribute [local go_sem ↓] Go.wp_at_zero Go.wp_at_succ
/-- The first j lines have their cells. -/
def sizedTo (W H W' : Nat) (G : Nat → Nat → Cel) (j : Nat) : Nat → Nat → Cel := fun x y => if y < j then sizedG W H W' G x y else blk Pn.plain
theorem sized_all {W H W' H' : Nat} (G : Nat → Nat → Cel) {j : Nat} (hj : j = H' ∨ j = H) : EqOn W' H' (sizedTo W H W' G j) (sizedG W H W' G) := by
  intro x y _ hy
  unfold sizedTo
  by_cases h : y < j
  · rw [if_pos h]
  · rw [if_neg h]
    unfold sizedG lastG
    have : ¬ (x < W ∧ y < H) := by omega
    simp only [if_neg this]
    rw [if_neg (by simp [blk])]
theorem sized_step {W H W' H' j c : Nat} {G K : Nat → Nat → Cel} (hw : Wf W H G) (hK : ∀ x, x < W → K x j = G x j) (hj : j < H) (hc : (c = W' ∧ c ≤ W) ∨ (c = W ∧ c ≤ W')) (c1 : 1 ≤ c) :
    EqOn W' H' (unlin W' (copyF (lin W' (sizedTo W H W' G j)) (partF (lin W K) (j * W) W 0 c) (j * W') (j * W) c)) (sizedTo W H W' G (j + 1)) := by
  intro x y hx _
  unfold unlin copyF
  have cm := place_cmp (W := W') (x := x) y j hx
  have cm2 := place_cmp (W := W') (x := x) y (j + 1) hx
  rw [Nat.add_mul] at cm2
  by_cases hy : y = j
  · subst hy
    rw [show sizedTo W H W' G (y + 1) x y = sizedG W H W' G x y from if_pos (by omega)]
    by_cases hxc : x < c
    · rw [if_pos (by omega), show y * W + (y * W' + x - y * W') = y * W + x by omega]
      unfold partF
      rw [cutF_none (c := 0) (.inl rfl)]
      have hL : lin W K (y * W + x) = G x y := by rw [lin_at K y (by omega)]; exact hK x (by omega)
      unfold sizedG lastG
      have hin : x < W ∧ y < H := by omega
      simp only [if_pos hin]
      by_cases hl : x + 1 = c
      · by_cases hcW : c < W
        · have hLc : lin W K (y * W + c) = G c y := by rw [lin_at K y hcW]; exact hK c hcW
          have := cutF_left (L := lin W K) (m := y * W) c1 hcW
          rw [show y * W + c - 1 = y * W + x by omega, hLc, hL] at this
          rw [this]
          by_cases e : (G c y).p = 2
          · have t := hw.tail c y hcW hj e
            rw [show c - 1 = x by omega] at t
            rw [if_pos e, if_pos ⟨by omega, by rw [t.2]⟩]
          · rw [if_neg e, if_neg (fun q => e ?_)]
            have t := hw.head x y (by omega) hj q.2
            rw [hl] at t
            rw [t.2]
        · rw [cutF_none (c := c) (.inr (by omega)), hL, if_neg (fun q => ?_)]
          have t := hw.head x y (by omega) hj q.2
          omega
      · rw [cutF_far (by omega) (by omega), hL, if_neg (by omega)]
    · rw [if_neg (by omega), lin_at _ y hx]
      unfold sizedG lastG
      have : ¬ (x < W ∧ y < H) := by omega
      simp only [if_neg this]
      unfold sizedTo
      rw [if_neg (by omega), if_neg (by simp [blk])]
  · rw [if_neg (by omega), lin_at _ y hx]
    unfold sizedTo
    by_cases h : y < j
    · rw [if_pos h, if_pos (by omega)]
    · rw [if_neg h, if_neg (by omega)]
theorem part_rest {W j c y x : Nat} {K : Nat → Nat → Cel} (hc : c ≤ W) (hx : x < W) (hy : j < y) : unlin W (partF (lin W K) (j * W) W 0 c) x y = K x y := by
  unfold unlin partF
  rw [cutF_none (c := 0) (.inl rfl)]
  have := Nat.mul_le_mul_right W (show j + 1 ≤ y from hy)
  rw [Nat.add_mul] at this
  by_cases e : c < W
  · rw [cutF_far (by omega) (by omega), lin_at K y hx]
  · rw [cutF_none (.inr (by omega)), lin_at K y hx]
set_option maxRecDepth 10000 in
set_option maxHeartbeats 2000000 in
theorem pSize (bg g W H N W' H' : Nat) (G : Nat → Nat → Cel) (w : World) (h : GrAt w bg g W H N G) (hw : Wf W H G) (w1 : 1 ≤ W') (w2 : W' ≤ 40) (h1 : 1 ≤ H') (h2 : H' ≤ 20) :
    Calls Tryz.prog 119 #[.pointer (some ⟨bg, 0, none⟩), .int .i64 W', .int .i64 H'] w fun e w' => ∃ g', e = .returned (.tuple #[]) ∧ GrAt w' bg g' W' H' (H' * W') (sizedG W H W' G) ∧ Keep (fun i => i = bg ∨ i = g) w w' ∧ w.heap.size ≤ g' := by
  have HG : Hid (GrAt w bg g W H N G) := h
  have c0 := h.c0
  have c1 := h.c1
  have wo1 := h.w1
  have wo2 := h.w2
  have ho1 := h.h1
  have ho2 := h.h2
  clear h
  go_enter Tryz.func119, Tryz.ntmps119
  go_wp2_with fail
  go_at_call 108
  refine (pNew W' H' _ w1 w2 h1 h2).mono ?_
  rintro e wa ⟨bn, gn, rfl, GN, hb, hbn, hgn⟩
  have GO : GrAt wa bg g W H N G := HG.out.below hb
  have Hlt := HG.out.lt
  have Hglt := HG.out.glt
  clear c0 c1 HG
  have c0 := GO.c0
  have c1 := GO.c1
  have HGO : Hid (GrAt wa bg g W H N G) := GO
  have HGN : Hid (GrAt wa bn gn W' H' (H' * W') (fun _ _ => blk Pn.plain)) := GN
  clear GO GN
  obtain ⟨c, hc⟩ : ∃ c : Nat, leastI W' W = c := ⟨(leastI W' W).toNat, by unfold leastI; split <;> omega⟩
  obtain ⟨l, hl⟩ : ∃ l : Nat, leastI H' H = l := ⟨(leastI H' H).toNat, by unfold leastI; split <;> omega⟩
  have hc1 : (c = W' ∧ c ≤ W) ∨ (c = W ∧ c ≤ W') := by unfold leastI at hc; split at hc <;> omega
  have hl1 : (l = H' ∧ l ≤ H) ∨ (l = H ∧ l ≤ H') := by unfold leastI at hl; split at hl <;> omega
  go_wp2_with (first | (go_at_call 138; refine (pLeast _ _ _).mono ?_; rintro e w' ⟨rfl, hw'⟩; replace hw' := hw'.symm; subst hw'; first | rw [hc] | rw [hl]))
  go_loopw [8, 24] (fun _ i w' => ∃ (j : Nat) (K : Nat → Nat → Cel), j ≤ l ∧ i = .int .i64 j ∧ GrAt w' bg g W H N K ∧ (∀ x y, x < W → j ≤ y → y < H → K x y = G x y) ∧ GrAt w' bn gn W' H' (H' * W') (sizedTo W H W' G j) ∧ Keep (fun i => i = g) w w') (fun _ i _ => l - (intOf i).toNat)
  case atStart => exact ⟨0, G, by omega, rfl, HGO.out, fun _ _ _ _ _ => rfl, HGN.out.congr (fun x y _ _ => by unfold sizedTo; rw [if_neg (by omega)]), Keep.below _ hb⟩
  case round =>
    obtain ⟨j, K, hj, rfl, hO, hK, hN, hKp⟩ := hrel
    have HO1 : Hid (GrAt wr bg g W H N K) := hO
    have HN1 : Hid (GrAt wr bn gn W' H' (H' * W') (sizedTo W H W' G j)) := hN
    have HK : Hid (∀ x y, x < W → j ≤ y → y < H → K x y = G x y) := hK
    clear hO hN hK HGO HGN c0 c1
    by_cases hlt : j < l
    · obtain ⟨m, hm⟩ : ∃ m, j * W = m := ⟨_, rfl⟩
      obtain ⟨m', hm'⟩ : ∃ m', j * W' = m' := ⟨_, rfl⟩
      have hmw : m + W ≤ N := by rw [← hm, HO1.out.hN]; have := Nat.mul_le_mul_right W (show j + 1 ≤ H by omega); rw [Nat.add_mul] at this; omega
      have hmw' : m' + W' ≤ H' * W' := by rw [← hm']; have := Nat.mul_le_mul_right W' (show j + 1 ≤ H' by omega); rw [Nat.add_mul] at this; omega
      obtain ⟨N', hN'⟩ : ∃ N', H' * W' = N' := ⟨_, rfl⟩
      rw [hN'] at HN1 hmw'
      obtain ⟨cn, hcn, hdn⟩ := HN1.out.c2
      have Hdn : Hid (wr.cell? ⟨bn, 2, none⟩ = some (.slice (some ⟨gn, 0, none⟩) N' cn)) := hdn
      clear hdn
      obtain ⟨r', hr'⟩ : ∃ r', m' + r' = cn := ⟨cn - m', by omega⟩
      have hne : gn ≠ g := by omega
      have hneb : bn ≠ g := by omega
      go_wp2_with fail
      go_at_call 154
      refine (pLine bn gn W' H' N' _ j m' r' _ HN1.out (by omega) hm' cn hcn Hdn.out hr').mono ?_
      rintro e w2 ⟨rfl, hb2⟩
      have HO2 : Hid (GrAt w2 bg g W H N K) := HO1.out.below hb2
      have HN2 : Hid (GrAt w2 bn gn W' H' N' (sizedTo W H W' G j)) := HN1.out.below hb2
      have K2 : Keep (fun i => i = g) w w2 := hKp.thenBelow hb2
      obtain ⟨co, hco, hdo⟩ := HO2.out.c2
      have Hdo : Hid (w2.cell? ⟨bg, 2, none⟩ = some (.slice (some ⟨g, 0, none⟩) N co)) := hdo
      clear hdo
      obtain ⟨r, hr⟩ : ∃ r, m + r = co := ⟨co - m, by omega⟩
      clear HO1 HN1 hKp hb2
      go_wp2_with fail
      go_at_call 155
      refine (pPart bg g W H N K 0 c j m r _ HO2.out (by omega) hm co hco Hdo.out hr (by omega) (by omega)).mono ?_
      rintro e w3 ⟨rfl, F3, K23⟩
      have HF3 : Hid (Flat w3 g N (partF (lin W K) m W 0 c)) := F3
      have HN3 : Hid (GrAt w3 bn gn W' H' N' (sizedTo W H W' G j)) := HN2.out.same (K23.block _ HN2.out.lt hneb) (K23.block _ HN2.out.glt hne)
      have HO3 : Hid (GrAt w3 bg g W H N (unlin W (partF (lin W K) m W 0 c))) := HO2.out.with F3 K23 (fun _ _ _ _ => rfl)
      have K3 : Keep (fun i => i = g) w w3 := K2.trans K23 (fun _ _ h => h)
      clear F3 K23 HO2 HN2 K2
      have hmn : Nat.min c W' = c := Nat.min_eq_left (by omega)
      go_wp2_with fail
      have FN3 : Flat w3 gn N' (lin W' (sizedTo W H W' G j)) := HN3.out.flat
      obtain ⟨w5, hrun, F5, K35⟩ := run_copy_any (P := Tryz.prog) w3 120 120 3 38 gn g N' N (lin W' (sizedTo W H W' G j)) (partF (lin W K) m W 0 c) (some ⟨gn, m' * 7, none⟩) (some ⟨g, m * 7, none⟩) m' m W' r' c r c Tryz.underlying120 cellSize hmn.symm FN3 HF3.out (fun _ => ⟨rfl, rfl, by omega, by omega⟩)
      rw [hrun]
      have HO5 : Hid (GrAt w5 bg g W H N (unlin W (partF (lin W K) m W 0 c))) := HO3.out.same (K35.block _ HO3.out.lt (by omega)) (K35.block _ HO3.out.glt (by omega))
      have HN5 : Hid (GrAt w5 bn gn W' H' N' (sizedTo W H W' G (j + 1))) := by
        refine HN3.out.with F5 K35 ?_
        have := sized_step (W := W) (H := H) (W' := W') (H' := H') (j := j) (c := c) (G := G) (K := K) hw (fun x hx => HK.out x j hx (Nat.le_refl _) (by omega)) (by omega) hc1 (by omega)
        rw [hm, hm'] at this
        exact this
      have K5 : Keep (fun i => i = g) w w5 := K3.trans K35 (fun i hi h => by omega)
      clear hrun FN3 F5 K35 HF3 HN3 HO3 K3
      go_wp2_with fail
      refine ⟨⟨j + 1, unlin W (partF (lin W K) m W 0 c), by omega, by simp, HO5.out, fun x y hx hy hyH => ?_, ?_, K5⟩, by simp only [intOf]; omega⟩
      · rw [← hm, part_rest (by omega) hx (by omega)]
        exact HK.out x y hx (by omega) hyH
      · rw [hN']; exact HN5.out
    · have hjl : j = l := by omega
      subst hjl
      have n0 := HN1.out.c0
      have n1 := HN1.out.c1
      obtain ⟨cn, hcn, n2⟩ := HN1.out.c2
      have o0 := HO1.out.c0
      have o1 := HO1.out.c1
      obtain ⟨co, hco, hob⟩ := HO1.out.blk
      have o2 : wr.cell? ⟨bg, 2, none⟩ = some (.slice (some ⟨g, 0, none⟩) N co) := by rw [cell_of_block hob]; rfl
      have fz := frozen_of_block hob
      have hbb : bn ≠ bg := by omega
      go_wp2_with fail
      go_end0
      have hgb : gn ≠ bg := by omega
      refine ⟨gn, rfl, GrAt.congr (G := sizedTo W H W' G j) ⟨?_, ?_, rfl, by omega, w1, w2, h1, h2⟩ (sized_all G (by omega)), ?_, hgn⟩
      · exact ⟨cn, hcn, by rw [heap_set_same (heap_set_same (heap_set_same hob 0 _) 1 _) 2 _]; rfl⟩
      · refine HN1.out.grid.same ?_
        rw [Go.RowKit.Below.heap_setCell _ _ _ _ hgb, Go.RowKit.Below.heap_setCell _ _ _ _ hgb, Go.RowKit.Below.heap_setCell _ _ _ _ hgb]
      · have Kq : Keep (fun i => i = bg ∨ i = g) w wr := hKp.mono (fun _ h => Or.inr h)
        exact ((Kq.setCell ⟨bg, 0, none⟩ _ (fun _ => Or.inl rfl)).setCell ⟨bg, 1, none⟩ _ (fun _ => Or.inl rfl)).setCell ⟨bg, 2, none⟩ _ (fun _ => Or.inl rfl)
end Go.Proofs.YtjlfibhbfdckpaaGreatDoor

/- The program's screen: what it is in memory. -/
namespace Go.Proofs.YtjlfibhbfdckpaaGreatDoor
open Go.RowKit
/-- What the program knows of a letter or a sequence that is begun: the mode, the bytes and their count, the numbers and their count, bad. -/
structure Pt where
  mode : Int
  by4 : Nat → Int
  bn : Int
  nm : Nat → Int
  cn : Int
  bad : Bool
abbrev prArr (bg : Nat) (s : Rs) (t : Pt) : Array Value := #[.pointer (some ⟨bg, 0, none⟩), .int .i64 s.x, .int .i64 s.y, .bool s.pend, .int .i64 s.pen.f, .int .i64 s.pen.b, .bool s.pen.bo, .bool s.pen.un, .bool s.pen.re, .int .i64 s.top, .int .i64 s.bot, .int .i64 t.mode, .int .u8 (t.by4 0), .int .u8 (t.by4 1), .int .u8 (t.by4 2), .int .u8 (t.by4 3), .int .i64 t.bn, .int .i64 (t.nm 0), .int .i64 (t.nm 1), .int .i64 (t.nm 2), .int .i64 (t.nm 3), .int .i64 (t.nm 4), .int .i64 (t.nm 5), .int .i64 (t.nm 6), .int .i64 (t.nm 7), .int .i64 t.cn, .bool t.bad]
/-- The program's screen lies in blocks bs, bg, g. -/
structure PrAt (w : World) (bs bg g N : Nat) (s : Rs) (t : Pt) : Prop where
  blk : w.heap[bs]? = some (.cells (prArr bg s t) 153)
  gr : GrAt w bg g s.W s.H N s.G
  ne1 : bs ≠ bg
  ne2 : bs ≠ g
section
variable {w w' : World} {bs bg g N : Nat} {s : Rs} {t : Pt}
theorem PrAt.lt (h : PrAt w bs bg g N s t) : bs < w.heap.size := (Array.getElem?_eq_some_iff.1 h.blk).1
theorem PrAt.same (h : PrAt w bs bg g N s t) (h1 : w'.heap[bs]? = w.heap[bs]?) (h2 : w'.heap[bg]? = w.heap[bg]?) (h3 : w'.heap[g]? = w.heap[g]?) : PrAt w' bs bg g N s t :=
  ⟨by rw [h1]; exact h.blk, h.gr.same h2 h3, h.ne1, h.ne2⟩
theorem PrAt.below (h : PrAt w bs bg g N s t) (hb : Below w.heap.size w w') : PrAt w' bs bg g N s t :=
  h.same (hb.block _ h.lt) (hb.block _ h.gr.lt) (hb.block _ h.gr.glt)
theorem PrAt.free (h : PrAt w bs bg g N s t) : ∀ o, w.frozen? ⟨bs, o, none⟩ = false := frozen_of_block h.blk
theorem PrAt.drew (h : PrAt w bs bg g N s t) : PrAt w.drew bs bg g N s t := h.same rfl rfl rfl
theorem PrAt.drewN (h : PrAt w bs bg g N s t) (n : Nat) : PrAt (w.drewN n) bs bg g N s t := h.same rfl rfl rfl
theorem PrAt.store (h : PrAt w bs bg g N s t) (o : Nat) (v : Value) (s' : Rs) (t' : Pt) (hs : (prArr bg s t).setIfInBounds o v = prArr bg s' t') (hW : s'.W = s.W) (hH : s'.H = s.H) (hG : s'.G = s.G) : PrAt (w.setCell ⟨bs, o, none⟩ v) bs bg g N s' t' := by
  refine ⟨?_, ?_, h.ne1, h.ne2⟩
  · rw [heap_set_same h.blk, hs]
  · rw [hW, hH, hG]
    exact h.gr.same (Below.heap_setCell _ _ _ _ (fun e => h.ne1 e.symm)) (Below.heap_setCell _ _ _ _ (fun e => h.ne2 e.symm))
/-- The cells change, and nothing else. -/
theorem PrAt.cells {g' N' : Nat} (h : PrAt w bs bg g N s t) (s' : Rs) (hb : w'.heap[bs]? = w.heap[bs]?) (hc : GrAt w' bg g' s'.W s'.H N' s'.G) (hs : prArr bg s' t = prArr bg s t) (hg : bs ≠ g') : PrAt w' bs bg g' N' s' t :=
  ⟨by rw [hb, hs]; exact h.blk, hc, h.ne1, hg⟩
theorem PrAt.congr (h : PrAt w bs bg g N s t) (s' : Rs) (hs : prArr bg s' t = prArr bg s t) (hW : s'.W = s.W) (hH : s'.H = s.H) (hG : EqOn s.W s.H s.G s'.G) : PrAt w bs bg g N s' t :=
  ⟨by rw [hs]; exact h.blk, by rw [hW, hH]; exact h.gr.congr hG, h.ne1, h.ne2⟩
theorem PrAt.f0 (h : PrAt w bs bg g N s t) : w.cell? ⟨bs, 0, none⟩ = some (.pointer (some ⟨bg, 0, none⟩)) := cell_of_block h.blk 0
theorem PrAt.f1 (h : PrAt w bs bg g N s t) : w.cell? ⟨bs, 1, none⟩ = some (.int .i64 s.x) := cell_of_block h.blk 1
theorem PrAt.f2 (h : PrAt w bs bg g N s t) : w.cell? ⟨bs, 2, none⟩ = some (.int .i64 s.y) := cell_of_block h.blk 2
theorem PrAt.f3 (h : PrAt w bs bg g N s t) : w.cell? ⟨bs, 3, none⟩ = some (.bool s.pend) := cell_of_block h.blk 3
theorem PrAt.f4 (h : PrAt w bs bg g N s t) : w.cell? ⟨bs, 4, none⟩ = some (.int .i64 s.pen.f) := cell_of_block h.blk 4
theorem PrAt.f5 (h : PrAt w bs bg g N s t) : w.cell? ⟨bs, 5, none⟩ = some (.int .i64 s.pen.b) := cell_of_block h.blk 5
theorem PrAt.f6 (h : PrAt w bs bg g N s t) : w.cell? ⟨bs, 6, none⟩ = some (.bool s.pen.bo) := cell_of_block h.blk 6
theorem PrAt.f7 (h : PrAt w bs bg g N s t) : w.cell? ⟨bs, 7, none⟩ = some (.bool s.pen.un) := cell_of_block h.blk 7
theorem PrAt.f8 (h : PrAt w bs bg g N s t) : w.cell? ⟨bs, 8, none⟩ = some (.bool s.pen.re) := cell_of_block h.blk 8
theorem PrAt.f9 (h : PrAt w bs bg g N s t) : w.cell? ⟨bs, 9, none⟩ = some (.int .i64 s.top) := cell_of_block h.blk 9
theorem PrAt.f10 (h : PrAt w bs bg g N s t) : w.cell? ⟨bs, 10, none⟩ = some (.int .i64 s.bot) := cell_of_block h.blk 10
theorem PrAt.f11 (h : PrAt w bs bg g N s t) : w.cell? ⟨bs, 11, none⟩ = some (.int .i64 t.mode) := cell_of_block h.blk 11
theorem PrAt.f12 (h : PrAt w bs bg g N s t) : w.cell? ⟨bs, 12, none⟩ = some (.int .u8 (t.by4 0)) := cell_of_block h.blk 12
theorem PrAt.f13 (h : PrAt w bs bg g N s t) : w.cell? ⟨bs, 13, none⟩ = some (.int .u8 (t.by4 1)) := cell_of_block h.blk 13
theorem PrAt.f14 (h : PrAt w bs bg g N s t) : w.cell? ⟨bs, 14, none⟩ = some (.int .u8 (t.by4 2)) := cell_of_block h.blk 14
theorem PrAt.f15 (h : PrAt w bs bg g N s t) : w.cell? ⟨bs, 15, none⟩ = some (.int .u8 (t.by4 3)) := cell_of_block h.blk 15
theorem PrAt.f16 (h : PrAt w bs bg g N s t) : w.cell? ⟨bs, 16, none⟩ = some (.int .i64 t.bn) := cell_of_block h.blk 16
theorem PrAt.f17 (h : PrAt w bs bg g N s t) : w.cell? ⟨bs, 17, none⟩ = some (.int .i64 (t.nm 0)) := cell_of_block h.blk 17
theorem PrAt.f18 (h : PrAt w bs bg g N s t) : w.cell? ⟨bs, 18, none⟩ = some (.int .i64 (t.nm 1)) := cell_of_block h.blk 18
theorem PrAt.f19 (h : PrAt w bs bg g N s t) : w.cell? ⟨bs, 19, none⟩ = some (.int .i64 (t.nm 2)) := cell_of_block h.blk 19
theorem PrAt.f20 (h : PrAt w bs bg g N s t) : w.cell? ⟨bs, 20, none⟩ = some (.int .i64 (t.nm 3)) := cell_of_block h.blk 20
theorem PrAt.f21 (h : PrAt w bs bg g N s t) : w.cell? ⟨bs, 21, none⟩ = some (.int .i64 (t.nm 4)) := cell_of_block h.blk 21
theorem PrAt.f22 (h : PrAt w bs bg g N s t) : w.cell? ⟨bs, 22, none⟩ = some (.int .i64 (t.nm 5)) := cell_of_block h.blk 22
theorem PrAt.f23 (h : PrAt w bs bg g N s t) : w.cell? ⟨bs, 23, none⟩ = some (.int .i64 (t.nm 6)) := cell_of_block h.blk 23
theorem PrAt.f24 (h : PrAt w bs bg g N s t) : w.cell? ⟨bs, 24, none⟩ = some (.int .i64 (t.nm 7)) := cell_of_block h.blk 24
theorem PrAt.f25 (h : PrAt w bs bg g N s t) : w.cell? ⟨bs, 25, none⟩ = some (.int .i64 t.cn) := cell_of_block h.blk 25
theorem PrAt.f26 (h : PrAt w bs bg g N s t) : w.cell? ⟨bs, 26, none⟩ = some (.bool t.bad) := cell_of_block h.blk 26
theorem PrAt.setX (h : PrAt w bs bg g N s t) (v : Int) : PrAt (w.setCell ⟨bs, 1, none⟩ (.int .i64 v)) bs bg g N { s with x := v } t := h.store 1 _ _ _ rfl rfl rfl rfl
theorem PrAt.setY (h : PrAt w bs bg g N s t) (v : Int) : PrAt (w.setCell ⟨bs, 2, none⟩ (.int .i64 v)) bs bg g N { s with y := v } t := h.store 2 _ _ _ rfl rfl rfl rfl
theorem PrAt.setPend (h : PrAt w bs bg g N s t) (v : Bool) : PrAt (w.setCell ⟨bs, 3, none⟩ (.bool v)) bs bg g N { s with pend := v } t := h.store 3 _ _ _ rfl rfl rfl rfl
theorem PrAt.setTop (h : PrAt w bs bg g N s t) (v : Int) : PrAt (w.setCell ⟨bs, 9, none⟩ (.int .i64 v)) bs bg g N { s with top := v } t := h.store 9 _ _ _ rfl rfl rfl rfl
theorem PrAt.setBot (h : PrAt w bs bg g N s t) (v : Int) : PrAt (w.setCell ⟨bs, 10, none⟩ (.int .i64 v)) bs bg g N { s with bot := v } t := h.store 10 _ _ _ rfl rfl rfl rfl
theorem PrAt.setMode (h : PrAt w bs bg g N s t) (v : Int) : PrAt (w.setCell ⟨bs, 11, none⟩ (.int .i64 v)) bs bg g N s { t with mode := v } := h.store 11 _ _ _ rfl rfl rfl rfl
theorem PrAt.setBn (h : PrAt w bs bg g N s t) (v : Int) : PrAt (w.setCell ⟨bs, 16, none⟩ (.int .i64 v)) bs bg g N s { t with bn := v } := h.store 16 _ _ _ rfl rfl rfl rfl
theorem PrAt.setCn (h : PrAt w bs bg g N s t) (v : Int) : PrAt (w.setCell ⟨bs, 25, none⟩ (.int .i64 v)) bs bg g N s { t with cn := v } := h.store 25 _ _ _ rfl rfl rfl rfl
theorem PrAt.setBad (h : PrAt w bs bg g N s t) (v : Bool) : PrAt (w.setCell ⟨bs, 26, none⟩ (.bool v)) bs bg g N s { t with bad := v } := h.store 26 _ _ _ rfl rfl rfl rfl
theorem PrAt.byte (h : PrAt w bs bg g N s t) (i : Nat) (hi : i < 4) : w.cell? ⟨bs, 12 + i, none⟩ = some (.int .u8 (t.by4 i)) := by
  match i, hi with
  | 0, _ => exact h.f12
  | 1, _ => exact h.f13
  | 2, _ => exact h.f14
  | 3, _ => exact h.f15
def updI (f : Nat → Int) (i : Nat) (v : Int) : Nat → Int := fun j => if j = i then v else f j
theorem PrAt.setByte (h : PrAt w bs bg g N s t) (i : Nat) (hi : i < 4) (v : Int) : PrAt (w.setCell ⟨bs, 12 + i, none⟩ (.int .u8 v)) bs bg g N s { t with by4 := updI t.by4 i v } := by
  match i, hi with
  | 0, _ => exact h.store 12 _ _ _ rfl rfl rfl rfl
  | 1, _ => exact h.store 13 _ _ _ rfl rfl rfl rfl
  | 2, _ => exact h.store 14 _ _ _ rfl rfl rfl rfl
  | 3, _ => exact h.store 15 _ _ _ rfl rfl rfl rfl
theorem PrAt.num (h : PrAt w bs bg g N s t) (i : Nat) (hi : i < 8) : w.cell? ⟨bs, 17 + i, none⟩ = some (.int .i64 (t.nm i)) := by
  match i, hi with
  | 0, _ => exact h.f17
  | 1, _ => exact h.f18
  | 2, _ => exact h.f19
  | 3, _ => exact h.f20
  | 4, _ => exact h.f21
  | 5, _ => exact h.f22
  | 6, _ => exact h.f23
  | 7, _ => exact h.f24
theorem PrAt.setNum (h : PrAt w bs bg g N s t) (i : Nat) (hi : i < 8) (v : Int) : PrAt (w.setCell ⟨bs, 17 + i, none⟩ (.int .i64 v)) bs bg g N s { t with nm := updI t.nm i v } := by
  match i, hi with
  | 0, _ => exact h.store 17 _ _ _ rfl rfl rfl rfl
  | 1, _ => exact h.store 18 _ _ _ rfl rfl rfl rfl
  | 2, _ => exact h.store 19 _ _ _ rfl rfl rfl rfl
  | 3, _ => exact h.store 20 _ _ _ rfl rfl rfl rfl
  | 4, _ => exact h.store 21 _ _ _ rfl rfl rfl rfl
  | 5, _ => exact h.store 22 _ _ _ rfl rfl rfl rfl
  | 6, _ => exact h.store 23 _ _ _ rfl rfl rfl rfl
  | 7, _ => exact h.store 24 _ _ _ rfl rfl rfl rfl
end
/-- What a call leaves: a result, and the screen. -/
def PPost (bs bg g : Nat) (w : World) (s : Rs) (t : Pt) (r : Value) (e : Ending) (w' : World) : Prop :=
  ∃ g' N', e = .returned r ∧ PrAt w' bs bg g' N' s t ∧ Keep (fun i => i = bs ∨ i = bg ∨ i = g) w w' ∧ (g' = g ∨ w.heap.size ≤ g')
theorem clamp_between (v : Int) {m : Nat} (h : 1 ≤ m) : betweenI v 0 ((m : Int) - 1) = clampI v m := by
  unfold betweenI greatestI leastI clampI
  split <;> split <;> split <;> omega
/-- The cells' block stays where it is in every call but Resize. -/
def SPost (bs bg g N : Nat) (w : World) (s : Rs) (t : Pt) (r : Value) (e : Ending) (w' : World) : Prop :=
  e = .returned r ∧ PrAt w' bs bg g N s t ∧ Keep (fun i => i = bs ∨ i = bg ∨ i = g) w w'
end Go.Proofs.YtjlfibhbfdckpaaGreatDoor

/- Desks in memory: the program's windows. -/
namespace Go.Proofs.YtjlfibhbfdckpaaGreatDoor
open Go.RowKit
/-- What has a block of its own: the desk's five (the call's, the desk's, its screen's three), a window's four. -/
inductive Pl where
  | top (k : Nat)
  | win (n : Int) (k : Nat)
/-- Where all of it lies. -/
structure Mm where
  t : Nat → Nat
  b : Int → Nat
  c : Int → Nat
  g : Int → Nat
  s : Int → Value
def Mm.blk (M : Mm) : Pl → Option Nat
  | .top k => some (M.t k)
  | .win n 0 => some (M.b n)
  | .win n 1 => some (M.c n)
  | .win n 2 => some (M.g n)
  | .win n _ => (M.s n).ownBlock
def Pl.ok (L : List Wn) : Pl → Prop
  | .top k => k < 5
  | .win n k => k < 4 ∧ ∃ v ∈ L, v.n = n
def Mm.own (M : Mm) (L : List Wn) (i : Nat) : Prop := ∃ p : Pl, p.ok L ∧ M.blk p = some i
def Mm.inj (M : Mm) (L : List Wn) : Prop := ∀ (p q : Pl) (i : Nat), p.ok L → q.ok L → M.blk p = some i → M.blk q = some i → p = q
def Mm.pp (M : Mm) (n : Int) : Option Addr := if n = -1 then none else some ⟨M.b n, 0, none⟩
abbrev Mm.ptr (M : Mm) (n : Int) : Value := .pointer (some ⟨M.b n, 0, none⟩)
def Mm.ptrs (M : Mm) (l : List Wn) : List Value := l.map (fun u => M.ptr u.n)
abbrev winArr (v : Wn) (pp : Option Addr) (cn : Nat) (sv : Value) : Array Value := #[.int .i64 v.n, .pointer pp, .int .i64 v.x, .int .i64 v.y, .bool v.sh, .pointer (some ⟨cn, 0, none⟩), sv]
/-- One window in memory. -/
structure WinV (w : World) (v : Wn) (bn cn gn : Nat) (pp : Option Addr) (sv : Value) (ks : List Value) : Prop where
  blk : w.heap[bn]? = some (.cells (winArr v pp cn sv) 131)
  gr : GrAt w cn gn v.W v.H (v.H * v.W) v.G
  wf : Wf v.W v.H v.G
  row : w.ownsRow 2 111 1 sv ks.length ks
theorem ownsRow_same {w w' : World} {base : Nat} {e : TypeId} {size : Nat} {v : Value} {n : Nat} {xs : List Value} (h : w.ownsRow base e size v n xs) (hs : ∀ i, v.ownBlock = some i → w'.heap[i]? = w.heap[i]?) : w'.ownsRow base e size v n xs := by
  refine ⟨h.1, ?_⟩
  rcases h.2 with h0 | ⟨g, cap, cur, rfl, h1, h2, h3⟩
  · exact .inl h0
  · exact .inr ⟨g, cap, cur, rfl, h1, by rw [hs g rfl]; exact h2, h3⟩
theorem ownsRow_lt {w : World} {base : Nat} {e : TypeId} {size : Nat} {v : Value} {n : Nat} {xs : List Value} (h : w.ownsRow base e size v n xs) {i : Nat} (hs : v.ownBlock = some i) : i < w.heap.size ∧ base ≤ i := by
  rcases h.2 with ⟨rfl, _⟩ | ⟨g, cap, cur, rfl, h1, h2, h3⟩
  · simp [Value.ownBlock] at hs
  · obtain rfl : g = i := by simpa [Value.ownBlock] using hs
    exact ⟨(Array.getElem?_eq_some_iff.1 h2).1, h1⟩
section
variable {w w' : World} {v : Wn} {bn cn gn : Nat} {pp : Option Addr} {sv : Value} {ks : List Value}
theorem WinV.lt (h : WinV w v bn cn gn pp sv ks) : bn < w.heap.size := (Array.getElem?_eq_some_iff.1 h.blk).1
theorem WinV.same (h : WinV w v bn cn gn pp sv ks) (h1 : w'.heap[bn]? = w.heap[bn]?) (h2 : w'.heap[cn]? = w.heap[cn]?) (h3 : w'.heap[gn]? = w.heap[gn]?) (h4 : ∀ i, sv.ownBlock = some i → w'.heap[i]? = w.heap[i]?) : WinV w' v bn cn gn pp sv ks :=
  ⟨by rw [h1]; exact h.blk, h.gr.same h2 h3, h.wf, ownsRow_same h.row h4⟩
theorem WinV.f0 (h : WinV w v bn cn gn pp sv ks) : w.cell? ⟨bn, 0, none⟩ = some (.int .i64 v.n) := cell_of_block h.blk 0
theorem WinV.f1 (h : WinV w v bn cn gn pp sv ks) : w.cell? ⟨bn, 1, none⟩ = some (.pointer pp) := cell_of_block h.blk 1
theorem WinV.f2 (h : WinV w v bn cn gn pp sv ks) : w.cell? ⟨bn, 2, none⟩ = some (.int .i64 v.x) := cell_of_block h.blk 2
theorem WinV.f3 (h : WinV w v bn cn gn pp sv ks) : w.cell? ⟨bn, 3, none⟩ = some (.int .i64 v.y) := cell_of_block h.blk 3
theorem WinV.f4 (h : WinV w v bn cn gn pp sv ks) : w.cell? ⟨bn, 4, none⟩ = some (.bool v.sh) := cell_of_block h.blk 4
theorem WinV.f5 (h : WinV w v bn cn gn pp sv ks) : w.cell? ⟨bn, 5, none⟩ = some (.pointer (some ⟨cn, 0, none⟩)) := cell_of_block h.blk 5
theorem WinV.f6 (h : WinV w v bn cn gn pp sv ks) : w.cell? ⟨bn, 6, none⟩ = some sv := cell_of_block h.blk 6
theorem WinV.free (h : WinV w v bn cn gn pp sv ks) : ∀ o, w.frozen? ⟨bn, o, none⟩ = false := frozen_of_block h.blk
end
/-- What holds of the windows of a desk, whatever they are. -/
structure DOk (L : List Wn) (last : Int) : Prop where
  tree : ∃ rk K, Tree L rk K
  le : ∀ v ∈ L, v.n ≤ last
  len : L.length ≤ 16
  pl : ∀ v ∈ L, -1000 ≤ v.x ∧ v.x ≤ 1000 ∧ -1000 ≤ v.y ∧ v.y ≤ 1000
/-- The program's desk. -/
structure DkAt (w : World) (M : Mm) (L : List Wn) (last : Int) (N : Nat) (s : Rs) (t : Pt) : Prop where
  b0 : w.heap[M.t 0]? = some (.cells #[.pointer (some ⟨M.t 1, 0, none⟩)] 75)
  b1 : w.heap[M.t 1]? = some (.cells #[M.ptr 0, .int .i64 last, .pointer (some ⟨M.t 2, 0, none⟩)] 133)
  scr : PrAt w (M.t 2) (M.t 3) (M.t 4) N s t
  win : ∀ v ∈ L, WinV w v (M.b v.n) (M.c v.n) (M.g v.n) (M.pp v.par) (M.s v.n) (M.ptrs (kids L v.n))
  inj : M.inj L
  two : ∀ i, M.own L i → 2 ≤ i
section
variable {w w' : World} {M : Mm} {L : List Wn} {last : Int} {N : Nat} {s : Rs} {t : Pt}
theorem DkAt.lt (h : DkAt w M L last N s t) {i : Nat} (hi : M.own L i) : i < w.heap.size := by
  obtain ⟨p, hp, hb⟩ := hi
  cases p with
  | top k =>
    obtain rfl : M.t k = i := by simpa [Mm.blk] using hb
    have hk : k < 5 := hp
    match k, hk with
    | 0, _ => exact (Array.getElem?_eq_some_iff.1 h.b0).1
    | 1, _ => exact (Array.getElem?_eq_some_iff.1 h.b1).1
    | 2, _ => exact h.scr.lt
    | 3, _ => exact h.scr.gr.lt
    | 4, _ => exact h.scr.gr.glt
  | win n k =>
    obtain ⟨hk, v, hv, rfl⟩ := hp
    have hw := h.win v hv
    match k, hk with
    | 0, _ => obtain rfl : M.b v.n = i := by simpa [Mm.blk] using hb
              exact hw.lt
    | 1, _ => obtain rfl : M.c v.n = i := by simpa [Mm.blk] using hb
              exact hw.gr.lt
    | 2, _ => obtain rfl : M.g v.n = i := by simpa [Mm.blk] using hb
              exact hw.gr.glt
    | 3, _ => exact (ownsRow_lt hw.row hb).1
theorem own_top (M : Mm) (L : List Wn) (k : Nat) (hk : k < 5) : M.own L (M.t k) := ⟨.top k, hk, rfl⟩
theorem own_b (M : Mm) {L : List Wn} {v : Wn} (hv : v ∈ L) : M.own L (M.b v.n) := ⟨.win v.n 0, ⟨by omega, v, hv, rfl⟩, rfl⟩
theorem own_c (M : Mm) {L : List Wn} {v : Wn} (hv : v ∈ L) : M.own L (M.c v.n) := ⟨.win v.n 1, ⟨by omega, v, hv, rfl⟩, rfl⟩
theorem own_g (M : Mm) {L : List Wn} {v : Wn} (hv : v ∈ L) : M.own L (M.g v.n) := ⟨.win v.n 2, ⟨by omega, v, hv, rfl⟩, rfl⟩
theorem own_s (M : Mm) {L : List Wn} {v : Wn} (hv : v ∈ L) {i : Nat} (hi : (M.s v.n).ownBlock = some i) : M.own L i := ⟨.win v.n 3, ⟨by omega, v, hv, rfl⟩, hi⟩
theorem DkAt.same (h : DkAt w M L last N s t) (hs : ∀ i, M.own L i → w'.heap[i]? = w.heap[i]?) : DkAt w' M L last N s t :=
  ⟨by rw [hs _ (own_top M L 0 (by omega))]; exact h.b0, by rw [hs _ (own_top M L 1 (by omega))]; exact h.b1,
   h.scr.same (hs _ (own_top M L 2 (by omega))) (hs _ (own_top M L 3 (by omega))) (hs _ (own_top M L 4 (by omega))),
   fun v hv => (h.win v hv).same (hs _ (own_b M hv)) (hs _ (own_c M hv)) (hs _ (own_g M hv)) (fun i hi => hs _ (own_s M hv hi)), h.inj, h.two⟩
theorem DkAt.keep {F : Nat → Prop} (h : DkAt w M L last N s t) (k : Keep F w w') (hF : ∀ i, M.own L i → ¬ F i) : DkAt w' M L last N s t :=
  h.same (fun i hi => k.block i (h.lt hi) (hF i hi))
theorem DkAt.below (h : DkAt w M L last N s t) (hb : Below w.heap.size w w') : DkAt w' M L last N s t :=
  h.same (fun i hi => hb.block i (h.lt hi))
theorem DkAt.drewN (h : DkAt w M L last N s t) (n : Nat) : DkAt (w.drewN n) M L last N s t := h.same (fun _ _ => rfl)
theorem DkAt.c0 (h : DkAt w M L last N s t) : w.cell? ⟨M.t 0, 0, none⟩ = some (.pointer (some ⟨M.t 1, 0, none⟩)) := cell_of_block h.b0 0
theorem DkAt.d0 (h : DkAt w M L last N s t) : w.cell? ⟨M.t 1, 0, none⟩ = some (M.ptr 0) := cell_of_block h.b1 0
theorem DkAt.d1 (h : DkAt w M L last N s t) : w.cell? ⟨M.t 1, 1, none⟩ = some (.int .i64 last) := cell_of_block h.b1 1
theorem DkAt.d2 (h : DkAt w M L last N s t) : w.cell? ⟨M.t 1, 2, none⟩ = some (.pointer (some ⟨M.t 2, 0, none⟩)) := cell_of_block h.b1 2
/-- Two of the blocks are different. -/
theorem DkAt.ne (h : DkAt w M L last N s t) {p q : Pl} {i j : Nat} (hp : p.ok L) (hq : q.ok L) (hi : M.blk p = some i) (hj : M.blk q = some j) (hpq : p ≠ q) : i ≠ j := fun e => hpq (h.inj p q i hp hq hi (e ▸ hj))
end
end Go.Proofs.YtjlfibhbfdckpaaGreatDoor
