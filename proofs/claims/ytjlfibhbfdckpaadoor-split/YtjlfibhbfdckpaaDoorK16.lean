/- Texts of the proof, one behind the other: SpB. -/
import Derived.Test.YtjlfibhbfdckpaaDoorK15
/- The statements without the document's answer: Split. -/
namespace Go.Proofs.YtjlfibhbfdckpaaDoor
open Go.RowKit
attribute [local go_sem ↓] Go.wp_at_zero Go.wp_at_succ
theorem Tabs.keepIn {w w' : World} {lo hi : Nat} (h : Tabs w) (k : Keep (fun i => lo ≤ i ∧ i < hi) w w') (hl : 2 ≤ lo) : Tabs w' := h.keep k (by omega) (by omega)
theorem cut_head (r : ByteArray) (m : Nat) : (r.extract 0 m).data.toList = r.data.toList.take m := by
  simp [ByteArray.data_extract, Array.toList_extract]
theorem cut_tail (r : ByteArray) (m : Nat) : (r.extract m r.size).data.toList = r.data.toList.drop m := by
  simp only [ByteArray.data_extract, Array.toList_extract, List.extract_eq_take_drop]
  exact List.take_of_length_le (by rw [List.length_drop]; exact Nat.le_refl _)
theorem cut_size (r : ByteArray) (a b : Nat) : (r.extract a b).size ≤ r.size := by
  simp only [ByteArray.size, ByteArray.data_extract, Array.size_extract]
  omega
theorem cut_one (r : ByteArray) (i : Nat) (h : i < r.size) : (r.extract i (i + 1)).data.toList = [r[i]] := by
  simp only [ByteArray.data_extract, Array.toList_extract, List.extract_eq_take_drop]
  have h' : i < r.data.toList.length := by simpa using h
  rw [show i + 1 - i = 1 by omega, List.drop_eq_getElem_cons h']
  simp
  rfl
set_option maxHeartbeats 1000000 in
theorem kPickBig (c : Int) (w : World) (c0 : -9223372036854775808 ≤ c) (c1 : c ≤ 9223372036854775807) :
    Calls Tryd.prog 14 #[.int .i64 c, .int .i64 (-9223372036854775808)] w fun e w' => e = .returned (.int .i64 (if c < 0 then -(c + 1) else c)) ∧ w' = w := by
  by_cases hc : c < 0
  · rw [if_pos hc]
    have e : (-(c + 1)).tmod (-9223372036854775808) = -(c + 1) := by rw [Int.tmod_neg, Int.tmod_eq_of_lt (by omega) (by omega)]
    go_enter Tryd.func14, Tryd.ntmps14
    go_wp2
    go_ret
    exact ⟨rfl, rfl⟩
  · rw [if_neg hc]
    have e : c.tmod (-9223372036854775808) = c := by rw [Int.tmod_neg, Int.tmod_eq_of_lt (by omega) (by omega)]
    go_enter Tryd.func14, Tryd.ntmps14
    go_wp2
    go_ret
    exact ⟨rfl, rfl⟩
theorem kPickL (c : Int) (L : Nat) (w : World) (hL : L ≤ 9223372036854775807) (c0 : -9223372036854775808 ≤ c) (c1 : c ≤ 9223372036854775807) :
    Calls Tryd.prog 14 #[.int .i64 c, .int .i64 (wrap64 ((L : Int) + 1))] w fun e w' => ∃ m : Nat, m ≤ L ∧ e = .returned (.int .i64 m) ∧ w' = w := by
  by_cases h : L = 9223372036854775807
  · have e : wrap64 ((L : Int) + 1) = -9223372036854775808 := by unfold wrap64; omega
    rw [e]
    refine (kPickBig c w c0 c1).mono ?_
    rintro e w' ⟨rfl, rfl⟩
    refine ⟨(if c < 0 then -(c + 1) else c).toNat, by split <;> omega, ?_, rfl⟩
    rw [Int.toNat_of_nonneg (by split <;> omega)]
  · have e : wrap64 ((L : Int) + 1) = ((L + 1 : Nat) : Int) := by unfold wrap64; omega
    rw [e]
    refine (kPick c (L + 1) w (by omega) (by omega) c0 c1).mono ?_
    rintro e w' ⟨rfl, rfl⟩
    have := pickK_lt c (n := L + 1) (by omega)
    exact ⟨pickK c (L + 1), by omega, rfl, rfl⟩
set_option maxRecDepth 10000 in
set_option maxHeartbeats 4000000 in
theorem kSplit (x y : Int) (tx : ByteArray) (za : Option Addr) (zn zc : Nat) (zs : List Int) (w : World) (T : Tabs w) (hw : 2 ≤ w.heap.size)
    (x0 : -9223372036854775808 ≤ x) (x1 : x ≤ 9223372036854775807) (y0 : -9223372036854775808 ≤ y) (y1 : y ≤ 9223372036854775807)
    (ht : tx.size ≤ 9223372036854775807) (hZ : IntsIn w za zn zs) (hz : zn ≤ 9223372036854775807) :
    Calls Tryd.prog 5 #[.int .i64 x, .int .i64 y, .string tx, .slice za zn zc] w fun e w' => e = .returned (.bool true) ∧ Below w.heap.size w w' := by
  have HT : Hid (Tabs w) := T
  have HZ : Hid (IntsIn w za zn zs) := hZ
  clear T hZ
  go_enter Tryd.func5, Tryd.ntmps5
  go_wp2_with fail
  go_at_call 10
  refine (kWorks _ HT.out hw).mono ?_
  rintro e w1 ⟨rfl, b1⟩
  have HB : Hid (Below w.heap.size w w1) := b1
  have hs1 : w.heap.size ≤ w1.heap.size := b1.size
  clear b1
  go_wp2_with fail
  go_at_call 11
  refine (ownScreen x y _ (by omega) x0 x1 y0 y1).mono ?_
  rintro e w2 ⟨pa, rfl, A2, b2⟩
  replace HB : Hid (Below w.heap.size w w2) := HB.out.trans (b2.mono hs1)
  have hs2 : w1.heap.size ≤ w2.heap.size := b2.size
  have HA : Hid (Own w1.heap.size w2.heap.size w2 pa (newR (1 + pickK x 40) (1 + pickK y 20))) := A2
  clear b2 A2
  go_wp2_with fail
  go_at_call 11
  refine (ownScreen x y _ (by omega) x0 x1 y0 y1).mono ?_
  rintro e w3 ⟨pb, rfl, A3, b3⟩
  replace HB : Hid (Below w.heap.size w w3) := HB.out.trans (b3.mono (by omega))
  have hs3 : w2.heap.size ≤ w3.heap.size := b3.size
  replace HA : Hid (Own w1.heap.size w2.heap.size w3 pa (newR (1 + pickK x 40) (1 + pickK y 20))) := HA.out.below b3
  have HBb : Hid (Own w2.heap.size w3.heap.size w3 pb (newR (1 + pickK x 40) (1 + pickK y 20))) := A3
  clear b3 A3
  go_wp2_with fail
  go_at_call 11
  refine (ownScreen x y _ (by omega) x0 x1 y0 y1).mono ?_
  rintro e w4 ⟨pc, rfl, A4, b4⟩
  replace HB : Hid (Below w.heap.size w w4) := HB.out.trans (b4.mono (by omega))
  have hs4 : w3.heap.size ≤ w4.heap.size := b4.size
  replace HA : Hid (Own w1.heap.size w2.heap.size w4 pa (newR (1 + pickK x 40) (1 + pickK y 20))) := HA.out.below b4
  replace HBb : Hid (Own w2.heap.size w3.heap.size w4 pb (newR (1 + pickK x 40) (1 + pickK y 20))) := HBb.out.below b4
  have HC : Hid (Own w3.heap.size w4.heap.size w4 pc (newR (1 + pickK x 40) (1 + pickK y 20))) := A4
  clear b4 A4
  have HT4 : Hid (Tabs w4) := HT.out.below HB.out
  generalize w1.heap.size = n1 at *
  generalize w2.heap.size = n2 at *
  generalize w3.heap.size = n3 at *
  have hn4 : n3 ≤ w4.heap.size := hs4
  generalize hq4 : w4.heap.size = n4 at *
  generalize newR (1 + pickK x 40) (1 + pickK y 20) = s0 at *
  go_wp2_with fail
  go_at_call 12
  refine (ownFeed HA.out HT4.out tx ht).mono ?_
  rintro e w5 ⟨rfl, A5, K5⟩
  clear HA
  have HA : Hid (Own n1 n2 w5 pa (feedR s0 tx.data.toList)) := A5
  replace HBb : Hid (Own n2 n3 w5 pb s0) := HBb.out.keep K5 (by omega)
  replace HC : Hid (Own n3 n4 w5 pc s0) := HC.out.keep K5 (by omega)
  replace HB : Hid (Below w.heap.size w w5) := HB.out.trans (K5.toBelow HB.out.size (fun i hi => by omega))
  have HT5 : Hid (Tabs w5) := HT4.out.keepIn K5 (by omega)
  clear A5 K5 HT4 hq4
  go_wp2_with fail
  go_loopw [13, 14] (fun u i w' => ∃ (k : Nat) (r : ByteArray) (pre : List UInt8), k ≤ zn ∧ i = .int .i64 k ∧ u = .string r ∧ tx.data.toList = pre ++ r.data.toList ∧ r.size ≤ tx.size ∧ Own n1 n2 w' pa (feedR s0 tx.data.toList) ∧ Own n2 n3 w' pb (feedR s0 pre) ∧ Own n3 n4 w' pc s0 ∧ Below w.heap.size w w' ∧ Tabs w') (fun _ i _ => zn - (intOf i).toNat)
  case atStart => exact ⟨0, tx, [], by omega, rfl, rfl, rfl, Nat.le_refl _, HA.out, HBb.out, HC.out, HB.out, HT5.out⟩
  case round =>
    obtain ⟨k, r, pre, hk, rfl, rfl, hpre, hr, hA, hBb, hC, hB, hT⟩ := hrel
    clear HA HBb HC HB HT5
    have HA : Hid (Own n1 n2 wr pa (feedR s0 tx.data.toList)) := hA
    have HBb : Hid (Own n2 n3 wr pb (feedR s0 pre)) := hBb
    have HC : Hid (Own n3 n4 wr pc s0) := hC
    have HB : Hid (Below w.heap.size w wr) := hB
    have HT5 : Hid (Tabs wr) := hT
    have Hpre : Hid (tx.data.toList = pre ++ r.data.toList) := hpre
    clear hA hBb hC hT hpre
    by_cases hlt : k < zn
    · have hlt' : (k : Int) < zn := by omega
      obtain ⟨zb, zo, rfl, zbs, zcell, zl, zu⟩ := HZ.out k hlt
      have zcl : wr.cell? ⟨zb, zo + k, none⟩ = some (.int .i64 (zs.getD k 0)) := (hB.cell (p := ⟨zb, zo + k, none⟩) zbs).trans zcell
      clear zcell hB
      generalize zs.getD k 0 = z at *
      go_wp2_with fail
      go_at_call 14
      refine (kPickL z r.size _ (by omega) zl zu).mono ?_
      rintro e w' ⟨m, hm, rfl, hw'⟩
      replace hw' := hw'.symm
      subst hw'
      have hm' : (m : Int) ≤ r.size := by omega
      have hm0 : (0 : Int) ≤ m := by omega
      have hsz : (r.extract 0 m).size ≤ 9223372036854775807 := Nat.le_trans (cut_size r 0 m) (by omega)
      go_wp2_with fail
      go_at_call 12
      refine (ownFeed HBb.out HT5.out (r.extract 0 m) hsz).mono ?_
      rintro e w6 ⟨rfl, A6, K6⟩
      rw [cut_head, ← feed_append] at A6
      clear HBb
      have HBb : Hid (Own n2 n3 w6 pb (feedR s0 (pre ++ r.data.toList.take m))) := A6
      replace HA : Hid (Own n1 n2 w6 pa (feedR s0 tx.data.toList)) := HA.out.keep K6 (by omega)
      replace HC : Hid (Own n3 n4 w6 pc s0) := HC.out.keep K6 (by omega)
      replace HB : Hid (Below w.heap.size w w6) := HB.out.trans (K6.toBelow HB.out.size (fun i hi => by omega))
      replace HT5 : Hid (Tabs w6) := HT5.out.keepIn K6 (by omega)
      have Hp2 : Hid (tx.data.toList = (pre ++ r.data.toList.take m) ++ (r.extract m r.size).data.toList) := by
        show _ = _
        rw [cut_tail, List.append_assoc, List.take_append_drop]; exact Hpre.out
      have Hs2 : Hid ((r.extract m r.size).size ≤ tx.size) := Nat.le_trans (cut_size r m r.size) hr
      clear A6 K6 zcl
      go_wp2_with fail
      exact ⟨⟨k + 1, _, _, by omega, by simp, rfl, Hp2.out, Hs2.out, HA.out, HBb.out, HC.out, HB.out, HT5.out⟩, by simp only [intOf]; omega⟩
    · have hlt' : ¬ (k : Int) < zn := by omega
      clear hB
      have hsz : r.size ≤ 9223372036854775807 := by omega
      go_wp2_with fail
      go_at_call 12
      refine (ownFeed HBb.out HT5.out r hsz).mono ?_
      rintro e w6 ⟨rfl, A6, K6⟩
      rw [← feed_append, ← Hpre.out] at A6
      clear HBb
      have HBb : Hid (Own n2 n3 w6 pb (feedR s0 tx.data.toList)) := A6
      replace HA : Hid (Own n1 n2 w6 pa (feedR s0 tx.data.toList)) := HA.out.keep K6 (by omega)
      replace HC : Hid (Own n3 n4 w6 pc s0) := HC.out.keep K6 (by omega)
      replace HB : Hid (Below w.heap.size w w6) := HB.out.trans (K6.toBelow HB.out.size (fun i hi => by omega))
      replace HT5 : Hid (Tabs w6) := HT5.out.keepIn K6 (by omega)
      clear A6 K6 Hpre
      go_wp2_with fail
      go_loopw [16] (fun i w' => ∃ k : Nat, k ≤ tx.size ∧ i = .int .i64 k ∧ Own n1 n2 w' pa (feedR s0 tx.data.toList) ∧ Own n2 n3 w' pb (feedR s0 tx.data.toList) ∧ Own n3 n4 w' pc (feedR s0 (tx.data.toList.take k)) ∧ Below w.heap.size w w' ∧ Tabs w') (fun i _ => tx.size - (intOf i).toNat)
      case atStart => exact ⟨0, by omega, rfl, HA.out, HBb.out, HC.out, HB.out, HT5.out⟩
      case round =>
        obtain ⟨j, hj, rfl, hA, hBb, hC, hB, hT⟩ := hrel
        clear HA HBb HC HB HT5
        have HA : Hid (Own n1 n2 wr pa (feedR s0 tx.data.toList)) := hA
        have HBb : Hid (Own n2 n3 wr pb (feedR s0 tx.data.toList)) := hBb
        have HC : Hid (Own n3 n4 wr pc (feedR s0 (tx.data.toList.take j))) := hC
        have HB : Hid (Below w.heap.size w wr) := hB
        have HT5 : Hid (Tabs wr) := hT
        clear hA hBb hC hT hB
        by_cases hltj : j < tx.size
        · have hltj' : (j : Int) < tx.size := by omega
          have Hnx : Hid (feedR s0 (tx.data.toList.take (j + 1)) = feedR (feedR s0 (tx.data.toList.take j)) [tx[j]]) := by
            show _ = _
            rw [take_snoc tx j hltj, feed_append]
          generalize hsc : feedR s0 (tx.data.toList.take j) = sc at *
          go_wp2_with fail
          go_at_call 16
          refine (ownState HC.out).mono ?_
          rintro e w7 ⟨rfl, b7⟩
          replace HA : Hid (Own n1 n2 w7 pa (feedR s0 tx.data.toList)) := HA.out.below b7
          replace HBb : Hid (Own n2 n3 w7 pb (feedR s0 tx.data.toList)) := HBb.out.below b7
          replace HC : Hid (Own n3 n4 w7 pc sc) := HC.out.below b7
          replace HB : Hid (Below w.heap.size w w7) := HB.out.trans (b7.mono HB.out.size)
          replace HT5 : Hid (Tabs w7) := HT5.out.below b7
          clear b7
          have hsz1 : (tx.extract j (j + 1)).size ≤ 9223372036854775807 := Nat.le_trans (cut_size tx j (j + 1)) ht
          cases hgb : groundB sc with
          | false =>
            go_wp2_with fail
            generalize hw8 : w7.alloc _ = w8
            have bw8 : Below w7.heap.size w7 w8 := by rw [← hw8]; exact (Below.refl _ _).alloc (Nat.le_refl _) _
            replace HA : Hid (Own n1 n2 w8 pa (feedR s0 tx.data.toList)) := HA.out.below bw8
            replace HBb : Hid (Own n2 n3 w8 pb (feedR s0 tx.data.toList)) := HBb.out.below bw8
            replace HC : Hid (Own n3 n4 w8 pc sc) := HC.out.below bw8
            replace HB : Hid (Below w.heap.size w w8) := HB.out.trans (bw8.mono HB.out.size)
            replace HT5 : Hid (Tabs w8) := HT5.out.below bw8
            clear bw8 hw8
            go_at_call 12
            refine (ownFeed HC.out HT5.out (tx.extract j (j + 1)) hsz1).mono ?_
            rintro e w9 ⟨rfl, A9, K9⟩
            rw [cut_one tx j hltj, ← Hnx.out] at A9
            have HC9 : Hid (Own n3 n4 w9 pc (feedR s0 (tx.data.toList.take (j + 1)))) := A9
            replace HA : Hid (Own n1 n2 w9 pa (feedR s0 tx.data.toList)) := HA.out.keep K9 (by omega)
            replace HBb : Hid (Own n2 n3 w9 pb (feedR s0 tx.data.toList)) := HBb.out.keep K9 (by omega)
            replace HB : Hid (Below w.heap.size w w9) := HB.out.trans (K9.toBelow HB.out.size (fun i hi => by omega))
            replace HT5 : Hid (Tabs w9) := HT5.out.keepIn K9 (by omega)
            clear A9 K9 HC
            go_wp2_with fail
            exact ⟨⟨j + 1, by omega, by simp, HA.out, HBb.out, HC9.out, HB.out, HT5.out⟩, by simp only [intOf]; omega⟩
          | true =>
            by_cases hz2 : j < zn
            · have hz2' : (j : Int) < zn := by omega
              obtain ⟨zb, zo, rfl, zbs, zcell, zl, zu⟩ := HZ.out j hz2
              have zcl : w7.cell? ⟨zb, zo + j, none⟩ = some (.int .i64 (zs.getD j 0)) := (HB.out.cell (p := ⟨zb, zo + j, none⟩) zbs).trans zcell
              have zbl : zb < w7.heap.size := Nat.lt_of_lt_of_le zbs HB.out.size
              clear zcell
              generalize zs.getD j 0 = z at *
              have lp := pickK_lt z (n := 10) (by omega)
              go_wp2_with fail
              go_at_call 14
              refine (kPick z 10 _ (by omega) (by omega) zl zu).mono ?_
              rintro e w' ⟨rfl, hw'⟩
              replace hw' := hw'.symm
              subst hw'
              obtain ⟨p, hp⟩ : ∃ p, pickK z 10 = p := ⟨_, rfl⟩
              rw [hp]
              rw [hp] at lp
              have hcase : p = 0 ∨ p = 1 ∨ p = 2 ∨ p = 3 ∨ p = 4 ∨ p = 5 ∨ p = 6 ∨ p = 7 ∨ p = 8 ∨ p = 9 := by omega
              clear hp
              rcases hcase with rfl | rfl | rfl | rfl | rfl | rfl | rfl | rfl | rfl | rfl
              · go_wp2_with fail
                generalize hw8 : World.alloc (World.alloc w7 _) _ = w8
                have b8 : Below w7.heap.size w7 w8 := by rw [← hw8]; exact ((Below.refl _ _).alloc (Nat.le_refl _) _).alloc (by simp) _
                replace HA : Hid (Own n1 n2 w8 pa (feedR s0 tx.data.toList)) := HA.out.below b8
                replace HBb : Hid (Own n2 n3 w8 pb (feedR s0 tx.data.toList)) := HBb.out.below b8
                replace HC : Hid (Own n3 n4 w8 pc sc) := HC.out.below b8
                replace HB : Hid (Below w.heap.size w w8) := HB.out.trans (b8.mono HB.out.size)
                replace HT5 : Hid (Tabs w8) := HT5.out.below b8
                clear b8 hw8 zcl zbl
                go_at_call 12
                refine (ownFeed HC.out HT5.out ⟨#[0]⟩ (by decide)).mono ?_
                rintro e wx ⟨rfl, Ax, Kx⟩
                have Ay : Own n3 n4 wx pc (oddR sc) := by rw [← nothing hgb 0 (by decide)]; exact Ax
                replace HC : Hid (Own n3 n4 wx pc sc) := Ay.noOdd
                replace HA : Hid (Own n1 n2 wx pa (feedR s0 tx.data.toList)) := HA.out.keep Kx (by omega)
                replace HBb : Hid (Own n2 n3 wx pb (feedR s0 tx.data.toList)) := HBb.out.keep Kx (by omega)
                replace HB : Hid (Below w.heap.size w wx) := HB.out.trans (Kx.toBelow HB.out.size (fun i hi => by omega))
                replace HT5 : Hid (Tabs wx) := HT5.out.keepIn Kx (by omega)
                clear Ax Ay Kx
                go_wp2_with fail
                go_at_call 12
                refine (ownFeed HC.out HT5.out (tx.extract j (j + 1)) hsz1).mono ?_
                rintro e w9 ⟨rfl, A9, K9⟩
                rw [cut_one tx j hltj, ← Hnx.out] at A9
                have HC9 : Hid (Own n3 n4 w9 pc (feedR s0 (tx.data.toList.take (j + 1)))) := A9
                replace HA : Hid (Own n1 n2 w9 pa (feedR s0 tx.data.toList)) := HA.out.keep K9 (by omega)
                replace HBb : Hid (Own n2 n3 w9 pb (feedR s0 tx.data.toList)) := HBb.out.keep K9 (by omega)
                replace HB : Hid (Below w.heap.size w w9) := HB.out.trans (K9.toBelow HB.out.size (fun i hi => by omega))
                replace HT5 : Hid (Tabs w9) := HT5.out.keepIn K9 (by omega)
                clear A9 K9 HC
                go_wp2_with fail
                exact ⟨⟨j + 1, by omega, by simp, HA.out, HBb.out, HC9.out, HB.out, HT5.out⟩, by simp only [intOf]; omega⟩
              · go_wp2_with fail
                generalize hw8 : World.alloc (World.alloc w7 _) _ = w8
                have b8 : Below w7.heap.size w7 w8 := by rw [← hw8]; exact ((Below.refl _ _).alloc (Nat.le_refl _) _).alloc (by simp) _
                replace HA : Hid (Own n1 n2 w8 pa (feedR s0 tx.data.toList)) := HA.out.below b8
                replace HBb : Hid (Own n2 n3 w8 pb (feedR s0 tx.data.toList)) := HBb.out.below b8
                replace HC : Hid (Own n3 n4 w8 pc sc) := HC.out.below b8
                replace HB : Hid (Below w.heap.size w w8) := HB.out.trans (b8.mono HB.out.size)
                replace HT5 : Hid (Tabs w8) := HT5.out.below b8
                clear b8 hw8 zcl zbl
                go_at_call 12
                refine (ownFeed HC.out HT5.out ⟨#[7]⟩ (by decide)).mono ?_
                rintro e wx ⟨rfl, Ax, Kx⟩
                have Ay : Own n3 n4 wx pc (oddR sc) := by rw [← nothing hgb 7 (by decide)]; exact Ax
                replace HC : Hid (Own n3 n4 wx pc sc) := Ay.noOdd
                replace HA : Hid (Own n1 n2 wx pa (feedR s0 tx.data.toList)) := HA.out.keep Kx (by omega)
                replace HBb : Hid (Own n2 n3 wx pb (feedR s0 tx.data.toList)) := HBb.out.keep Kx (by omega)
                replace HB : Hid (Below w.heap.size w wx) := HB.out.trans (Kx.toBelow HB.out.size (fun i hi => by omega))
                replace HT5 : Hid (Tabs wx) := HT5.out.keepIn Kx (by omega)
                clear Ax Ay Kx
                go_wp2_with fail
                go_at_call 12
                refine (ownFeed HC.out HT5.out (tx.extract j (j + 1)) hsz1).mono ?_
                rintro e w9 ⟨rfl, A9, K9⟩
                rw [cut_one tx j hltj, ← Hnx.out] at A9
                have HC9 : Hid (Own n3 n4 w9 pc (feedR s0 (tx.data.toList.take (j + 1)))) := A9
                replace HA : Hid (Own n1 n2 w9 pa (feedR s0 tx.data.toList)) := HA.out.keep K9 (by omega)
                replace HBb : Hid (Own n2 n3 w9 pb (feedR s0 tx.data.toList)) := HBb.out.keep K9 (by omega)
                replace HB : Hid (Below w.heap.size w w9) := HB.out.trans (K9.toBelow HB.out.size (fun i hi => by omega))
                replace HT5 : Hid (Tabs w9) := HT5.out.keepIn K9 (by omega)
                clear A9 K9 HC
                go_wp2_with fail
                exact ⟨⟨j + 1, by omega, by simp, HA.out, HBb.out, HC9.out, HB.out, HT5.out⟩, by simp only [intOf]; omega⟩
              · go_wp2_with fail
                generalize hw8 : World.alloc (World.alloc w7 _) _ = w8
                have b8 : Below w7.heap.size w7 w8 := by rw [← hw8]; exact ((Below.refl _ _).alloc (Nat.le_refl _) _).alloc (by simp) _
                replace HA : Hid (Own n1 n2 w8 pa (feedR s0 tx.data.toList)) := HA.out.below b8
                replace HBb : Hid (Own n2 n3 w8 pb (feedR s0 tx.data.toList)) := HBb.out.below b8
                replace HC : Hid (Own n3 n4 w8 pc sc) := HC.out.below b8
                replace HB : Hid (Below w.heap.size w w8) := HB.out.trans (b8.mono HB.out.size)
                replace HT5 : Hid (Tabs w8) := HT5.out.below b8
                clear b8 hw8 zcl zbl
                go_at_call 12
                refine (ownFeed HC.out HT5.out ⟨#[127]⟩ (by decide)).mono ?_
                rintro e wx ⟨rfl, Ax, Kx⟩
                have Ay : Own n3 n4 wx pc (oddR sc) := by rw [← nothing hgb 127 (by decide)]; exact Ax
                replace HC : Hid (Own n3 n4 wx pc sc) := Ay.noOdd
                replace HA : Hid (Own n1 n2 wx pa (feedR s0 tx.data.toList)) := HA.out.keep Kx (by omega)
                replace HBb : Hid (Own n2 n3 wx pb (feedR s0 tx.data.toList)) := HBb.out.keep Kx (by omega)
                replace HB : Hid (Below w.heap.size w wx) := HB.out.trans (Kx.toBelow HB.out.size (fun i hi => by omega))
                replace HT5 : Hid (Tabs wx) := HT5.out.keepIn Kx (by omega)
                clear Ax Ay Kx
                go_wp2_with fail
                go_at_call 12
                refine (ownFeed HC.out HT5.out (tx.extract j (j + 1)) hsz1).mono ?_
                rintro e w9 ⟨rfl, A9, K9⟩
                rw [cut_one tx j hltj, ← Hnx.out] at A9
                have HC9 : Hid (Own n3 n4 w9 pc (feedR s0 (tx.data.toList.take (j + 1)))) := A9
                replace HA : Hid (Own n1 n2 w9 pa (feedR s0 tx.data.toList)) := HA.out.keep K9 (by omega)
                replace HBb : Hid (Own n2 n3 w9 pb (feedR s0 tx.data.toList)) := HBb.out.keep K9 (by omega)
                replace HB : Hid (Below w.heap.size w w9) := HB.out.trans (K9.toBelow HB.out.size (fun i hi => by omega))
                replace HT5 : Hid (Tabs w9) := HT5.out.keepIn K9 (by omega)
                clear A9 K9 HC
                go_wp2_with fail
                exact ⟨⟨j + 1, by omega, by simp, HA.out, HBb.out, HC9.out, HB.out, HT5.out⟩, by simp only [intOf]; omega⟩
              · go_wp2_with fail
                generalize hw8 : World.alloc (World.alloc w7 _) _ = w8
                have b8 : Below w7.heap.size w7 w8 := by rw [← hw8]; exact ((Below.refl _ _).alloc (Nat.le_refl _) _).alloc (by simp) _
                replace HA : Hid (Own n1 n2 w8 pa (feedR s0 tx.data.toList)) := HA.out.below b8
                replace HBb : Hid (Own n2 n3 w8 pb (feedR s0 tx.data.toList)) := HBb.out.below b8
                replace HC : Hid (Own n3 n4 w8 pc sc) := HC.out.below b8
                replace HB : Hid (Below w.heap.size w w8) := HB.out.trans (b8.mono HB.out.size)
                replace HT5 : Hid (Tabs w8) := HT5.out.below b8
                clear b8 hw8 zcl zbl
                go_at_call 12
                refine (ownFeed HC.out HT5.out ⟨#[128]⟩ (by decide)).mono ?_
                rintro e wx ⟨rfl, Ax, Kx⟩
                have Ay : Own n3 n4 wx pc (oddR sc) := by rw [← nothing hgb 128 (by decide)]; exact Ax
                replace HC : Hid (Own n3 n4 wx pc sc) := Ay.noOdd
                replace HA : Hid (Own n1 n2 wx pa (feedR s0 tx.data.toList)) := HA.out.keep Kx (by omega)
                replace HBb : Hid (Own n2 n3 wx pb (feedR s0 tx.data.toList)) := HBb.out.keep Kx (by omega)
                replace HB : Hid (Below w.heap.size w wx) := HB.out.trans (Kx.toBelow HB.out.size (fun i hi => by omega))
                replace HT5 : Hid (Tabs wx) := HT5.out.keepIn Kx (by omega)
                clear Ax Ay Kx
                go_wp2_with fail
                go_at_call 12
                refine (ownFeed HC.out HT5.out (tx.extract j (j + 1)) hsz1).mono ?_
                rintro e w9 ⟨rfl, A9, K9⟩
                rw [cut_one tx j hltj, ← Hnx.out] at A9
                have HC9 : Hid (Own n3 n4 w9 pc (feedR s0 (tx.data.toList.take (j + 1)))) := A9
                replace HA : Hid (Own n1 n2 w9 pa (feedR s0 tx.data.toList)) := HA.out.keep K9 (by omega)
                replace HBb : Hid (Own n2 n3 w9 pb (feedR s0 tx.data.toList)) := HBb.out.keep K9 (by omega)
                replace HB : Hid (Below w.heap.size w w9) := HB.out.trans (K9.toBelow HB.out.size (fun i hi => by omega))
                replace HT5 : Hid (Tabs w9) := HT5.out.keepIn K9 (by omega)
                clear A9 K9 HC
                go_wp2_with fail
                exact ⟨⟨j + 1, by omega, by simp, HA.out, HBb.out, HC9.out, HB.out, HT5.out⟩, by simp only [intOf]; omega⟩
              · go_wp2_with fail
                generalize hw8 : World.alloc (World.alloc w7 _) _ = w8
                have b8 : Below w7.heap.size w7 w8 := by rw [← hw8]; exact ((Below.refl _ _).alloc (Nat.le_refl _) _).alloc (by simp) _
                replace HA : Hid (Own n1 n2 w8 pa (feedR s0 tx.data.toList)) := HA.out.below b8
                replace HBb : Hid (Own n2 n3 w8 pb (feedR s0 tx.data.toList)) := HBb.out.below b8
                replace HC : Hid (Own n3 n4 w8 pc sc) := HC.out.below b8
                replace HB : Hid (Below w.heap.size w w8) := HB.out.trans (b8.mono HB.out.size)
                replace HT5 : Hid (Tabs w8) := HT5.out.below b8
                clear b8 hw8 zcl zbl
                go_at_call 12
                refine (ownFeed HC.out HT5.out ⟨#[193]⟩ (by decide)).mono ?_
                rintro e wx ⟨rfl, Ax, Kx⟩
                have Ay : Own n3 n4 wx pc (oddR sc) := by rw [← nothing hgb 193 (by decide)]; exact Ax
                replace HC : Hid (Own n3 n4 wx pc sc) := Ay.noOdd
                replace HA : Hid (Own n1 n2 wx pa (feedR s0 tx.data.toList)) := HA.out.keep Kx (by omega)
                replace HBb : Hid (Own n2 n3 wx pb (feedR s0 tx.data.toList)) := HBb.out.keep Kx (by omega)
                replace HB : Hid (Below w.heap.size w wx) := HB.out.trans (Kx.toBelow HB.out.size (fun i hi => by omega))
                replace HT5 : Hid (Tabs wx) := HT5.out.keepIn Kx (by omega)
                clear Ax Ay Kx
                go_wp2_with fail
                go_at_call 12
                refine (ownFeed HC.out HT5.out (tx.extract j (j + 1)) hsz1).mono ?_
                rintro e w9 ⟨rfl, A9, K9⟩
                rw [cut_one tx j hltj, ← Hnx.out] at A9
                have HC9 : Hid (Own n3 n4 w9 pc (feedR s0 (tx.data.toList.take (j + 1)))) := A9
                replace HA : Hid (Own n1 n2 w9 pa (feedR s0 tx.data.toList)) := HA.out.keep K9 (by omega)
                replace HBb : Hid (Own n2 n3 w9 pb (feedR s0 tx.data.toList)) := HBb.out.keep K9 (by omega)
                replace HB : Hid (Below w.heap.size w w9) := HB.out.trans (K9.toBelow HB.out.size (fun i hi => by omega))
                replace HT5 : Hid (Tabs w9) := HT5.out.keepIn K9 (by omega)
                clear A9 K9 HC
                go_wp2_with fail
                exact ⟨⟨j + 1, by omega, by simp, HA.out, HBb.out, HC9.out, HB.out, HT5.out⟩, by simp only [intOf]; omega⟩
              · go_wp2_with fail
                generalize hw8 : World.alloc (World.alloc w7 _) _ = w8
                have b8 : Below w7.heap.size w7 w8 := by rw [← hw8]; exact ((Below.refl _ _).alloc (Nat.le_refl _) _).alloc (by simp) _
                replace HA : Hid (Own n1 n2 w8 pa (feedR s0 tx.data.toList)) := HA.out.below b8
                replace HBb : Hid (Own n2 n3 w8 pb (feedR s0 tx.data.toList)) := HBb.out.below b8
                replace HC : Hid (Own n3 n4 w8 pc sc) := HC.out.below b8
                replace HB : Hid (Below w.heap.size w w8) := HB.out.trans (b8.mono HB.out.size)
                replace HT5 : Hid (Tabs w8) := HT5.out.below b8
                clear b8 hw8 zcl zbl
                go_at_call 12
                refine (ownFeed HC.out HT5.out ⟨#[245]⟩ (by decide)).mono ?_
                rintro e wx ⟨rfl, Ax, Kx⟩
                have Ay : Own n3 n4 wx pc (oddR sc) := by rw [← nothing hgb 245 (by decide)]; exact Ax
                replace HC : Hid (Own n3 n4 wx pc sc) := Ay.noOdd
                replace HA : Hid (Own n1 n2 wx pa (feedR s0 tx.data.toList)) := HA.out.keep Kx (by omega)
                replace HBb : Hid (Own n2 n3 wx pb (feedR s0 tx.data.toList)) := HBb.out.keep Kx (by omega)
                replace HB : Hid (Below w.heap.size w wx) := HB.out.trans (Kx.toBelow HB.out.size (fun i hi => by omega))
                replace HT5 : Hid (Tabs wx) := HT5.out.keepIn Kx (by omega)
                clear Ax Ay Kx
                go_wp2_with fail
                go_at_call 12
                refine (ownFeed HC.out HT5.out (tx.extract j (j + 1)) hsz1).mono ?_
                rintro e w9 ⟨rfl, A9, K9⟩
                rw [cut_one tx j hltj, ← Hnx.out] at A9
                have HC9 : Hid (Own n3 n4 w9 pc (feedR s0 (tx.data.toList.take (j + 1)))) := A9
                replace HA : Hid (Own n1 n2 w9 pa (feedR s0 tx.data.toList)) := HA.out.keep K9 (by omega)
                replace HBb : Hid (Own n2 n3 w9 pb (feedR s0 tx.data.toList)) := HBb.out.keep K9 (by omega)
                replace HB : Hid (Below w.heap.size w w9) := HB.out.trans (K9.toBelow HB.out.size (fun i hi => by omega))
                replace HT5 : Hid (Tabs w9) := HT5.out.keepIn K9 (by omega)
                clear A9 K9 HC
                go_wp2_with fail
                exact ⟨⟨j + 1, by omega, by simp, HA.out, HBb.out, HC9.out, HB.out, HT5.out⟩, by simp only [intOf]; omega⟩
              · go_wp2_with fail
                generalize hw8 : World.alloc (World.alloc w7 _) _ = w8
                have b8 : Below w7.heap.size w7 w8 := by rw [← hw8]; exact ((Below.refl _ _).alloc (Nat.le_refl _) _).alloc (by simp) _
                replace HA : Hid (Own n1 n2 w8 pa (feedR s0 tx.data.toList)) := HA.out.below b8
                replace HBb : Hid (Own n2 n3 w8 pb (feedR s0 tx.data.toList)) := HBb.out.below b8
                replace HC : Hid (Own n3 n4 w8 pc sc) := HC.out.below b8
                replace HB : Hid (Below w.heap.size w w8) := HB.out.trans (b8.mono HB.out.size)
                replace HT5 : Hid (Tabs w8) := HT5.out.below b8
                clear b8 hw8 zcl zbl
                go_at_call 12
                refine (ownFeed HC.out HT5.out ⟨#[255]⟩ (by decide)).mono ?_
                rintro e wx ⟨rfl, Ax, Kx⟩
                have Ay : Own n3 n4 wx pc (oddR sc) := by rw [← nothing hgb 255 (by decide)]; exact Ax
                replace HC : Hid (Own n3 n4 wx pc sc) := Ay.noOdd
                replace HA : Hid (Own n1 n2 wx pa (feedR s0 tx.data.toList)) := HA.out.keep Kx (by omega)
                replace HBb : Hid (Own n2 n3 wx pb (feedR s0 tx.data.toList)) := HBb.out.keep Kx (by omega)
                replace HB : Hid (Below w.heap.size w wx) := HB.out.trans (Kx.toBelow HB.out.size (fun i hi => by omega))
                replace HT5 : Hid (Tabs wx) := HT5.out.keepIn Kx (by omega)
                clear Ax Ay Kx
                go_wp2_with fail
                go_at_call 12
                refine (ownFeed HC.out HT5.out (tx.extract j (j + 1)) hsz1).mono ?_
                rintro e w9 ⟨rfl, A9, K9⟩
                rw [cut_one tx j hltj, ← Hnx.out] at A9
                have HC9 : Hid (Own n3 n4 w9 pc (feedR s0 (tx.data.toList.take (j + 1)))) := A9
                replace HA : Hid (Own n1 n2 w9 pa (feedR s0 tx.data.toList)) := HA.out.keep K9 (by omega)
                replace HBb : Hid (Own n2 n3 w9 pb (feedR s0 tx.data.toList)) := HBb.out.keep K9 (by omega)
                replace HB : Hid (Below w.heap.size w w9) := HB.out.trans (K9.toBelow HB.out.size (fun i hi => by omega))
                replace HT5 : Hid (Tabs w9) := HT5.out.keepIn K9 (by omega)
                clear A9 K9 HC
                go_wp2_with fail
                exact ⟨⟨j + 1, by omega, by simp, HA.out, HBb.out, HC9.out, HB.out, HT5.out⟩, by simp only [intOf]; omega⟩
              · go_wp2_with fail
                generalize hw8 : World.alloc (World.alloc w7 _) _ = w8
                have b8 : Below w7.heap.size w7 w8 := by rw [← hw8]; exact ((Below.refl _ _).alloc (Nat.le_refl _) _).alloc (by simp) _
                replace HA : Hid (Own n1 n2 w8 pa (feedR s0 tx.data.toList)) := HA.out.below b8
                replace HBb : Hid (Own n2 n3 w8 pb (feedR s0 tx.data.toList)) := HBb.out.below b8
                replace HC : Hid (Own n3 n4 w8 pc sc) := HC.out.below b8
                replace HB : Hid (Below w.heap.size w w8) := HB.out.trans (b8.mono HB.out.size)
                replace HT5 : Hid (Tabs w8) := HT5.out.below b8
                clear b8 hw8 zcl zbl
                go_at_call 12
                refine (ownFeed HC.out HT5.out ⟨#[9]⟩ (by decide)).mono ?_
                rintro e wx ⟨rfl, Ax, Kx⟩
                have Ay : Own n3 n4 wx pc (oddR sc) := by rw [← nothing hgb 9 (by decide)]; exact Ax
                replace HC : Hid (Own n3 n4 wx pc sc) := Ay.noOdd
                replace HA : Hid (Own n1 n2 wx pa (feedR s0 tx.data.toList)) := HA.out.keep Kx (by omega)
                replace HBb : Hid (Own n2 n3 wx pb (feedR s0 tx.data.toList)) := HBb.out.keep Kx (by omega)
                replace HB : Hid (Below w.heap.size w wx) := HB.out.trans (Kx.toBelow HB.out.size (fun i hi => by omega))
                replace HT5 : Hid (Tabs wx) := HT5.out.keepIn Kx (by omega)
                clear Ax Ay Kx
                go_wp2_with fail
                go_at_call 12
                refine (ownFeed HC.out HT5.out (tx.extract j (j + 1)) hsz1).mono ?_
                rintro e w9 ⟨rfl, A9, K9⟩
                rw [cut_one tx j hltj, ← Hnx.out] at A9
                have HC9 : Hid (Own n3 n4 w9 pc (feedR s0 (tx.data.toList.take (j + 1)))) := A9
                replace HA : Hid (Own n1 n2 w9 pa (feedR s0 tx.data.toList)) := HA.out.keep K9 (by omega)
                replace HBb : Hid (Own n2 n3 w9 pb (feedR s0 tx.data.toList)) := HBb.out.keep K9 (by omega)
                replace HB : Hid (Below w.heap.size w w9) := HB.out.trans (K9.toBelow HB.out.size (fun i hi => by omega))
                replace HT5 : Hid (Tabs w9) := HT5.out.keepIn K9 (by omega)
                clear A9 K9 HC
                go_wp2_with fail
                exact ⟨⟨j + 1, by omega, by simp, HA.out, HBb.out, HC9.out, HB.out, HT5.out⟩, by simp only [intOf]; omega⟩
              · go_wp2_with fail
                generalize hw8 : World.alloc (World.alloc w7 _) _ = w8
                have b8 : Below w7.heap.size w7 w8 := by rw [← hw8]; exact ((Below.refl _ _).alloc (Nat.le_refl _) _).alloc (by simp) _
                replace HA : Hid (Own n1 n2 w8 pa (feedR s0 tx.data.toList)) := HA.out.below b8
                replace HBb : Hid (Own n2 n3 w8 pb (feedR s0 tx.data.toList)) := HBb.out.below b8
                replace HC : Hid (Own n3 n4 w8 pc sc) := HC.out.below b8
                replace HB : Hid (Below w.heap.size w w8) := HB.out.trans (b8.mono HB.out.size)
                replace HT5 : Hid (Tabs w8) := HT5.out.below b8
                clear b8 hw8 zcl zbl
                go_at_call 12
                refine (ownFeed HC.out HT5.out ⟨#[11]⟩ (by decide)).mono ?_
                rintro e wx ⟨rfl, Ax, Kx⟩
                have Ay : Own n3 n4 wx pc (oddR sc) := by rw [← nothing hgb 11 (by decide)]; exact Ax
                replace HC : Hid (Own n3 n4 wx pc sc) := Ay.noOdd
                replace HA : Hid (Own n1 n2 wx pa (feedR s0 tx.data.toList)) := HA.out.keep Kx (by omega)
                replace HBb : Hid (Own n2 n3 wx pb (feedR s0 tx.data.toList)) := HBb.out.keep Kx (by omega)
                replace HB : Hid (Below w.heap.size w wx) := HB.out.trans (Kx.toBelow HB.out.size (fun i hi => by omega))
                replace HT5 : Hid (Tabs wx) := HT5.out.keepIn Kx (by omega)
                clear Ax Ay Kx
                go_wp2_with fail
                go_at_call 12
                refine (ownFeed HC.out HT5.out (tx.extract j (j + 1)) hsz1).mono ?_
                rintro e w9 ⟨rfl, A9, K9⟩
                rw [cut_one tx j hltj, ← Hnx.out] at A9
                have HC9 : Hid (Own n3 n4 w9 pc (feedR s0 (tx.data.toList.take (j + 1)))) := A9
                replace HA : Hid (Own n1 n2 w9 pa (feedR s0 tx.data.toList)) := HA.out.keep K9 (by omega)
                replace HBb : Hid (Own n2 n3 w9 pb (feedR s0 tx.data.toList)) := HBb.out.keep K9 (by omega)
                replace HB : Hid (Below w.heap.size w w9) := HB.out.trans (K9.toBelow HB.out.size (fun i hi => by omega))
                replace HT5 : Hid (Tabs w9) := HT5.out.keepIn K9 (by omega)
                clear A9 K9 HC
                go_wp2_with fail
                exact ⟨⟨j + 1, by omega, by simp, HA.out, HBb.out, HC9.out, HB.out, HT5.out⟩, by simp only [intOf]; omega⟩
              · go_wp2_with fail
                generalize hw8 : World.alloc (World.alloc w7 _) _ = w8
                have b8 : Below w7.heap.size w7 w8 := by rw [← hw8]; exact ((Below.refl _ _).alloc (Nat.le_refl _) _).alloc (by simp) _
                replace HA : Hid (Own n1 n2 w8 pa (feedR s0 tx.data.toList)) := HA.out.below b8
                replace HBb : Hid (Own n2 n3 w8 pb (feedR s0 tx.data.toList)) := HBb.out.below b8
                replace HC : Hid (Own n3 n4 w8 pc sc) := HC.out.below b8
                replace HB : Hid (Below w.heap.size w w8) := HB.out.trans (b8.mono HB.out.size)
                replace HT5 : Hid (Tabs w8) := HT5.out.below b8
                clear b8 hw8 zcl zbl
                go_at_call 12
                refine (ownFeed HC.out HT5.out ⟨#[31]⟩ (by decide)).mono ?_
                rintro e wx ⟨rfl, Ax, Kx⟩
                have Ay : Own n3 n4 wx pc (oddR sc) := by rw [← nothing hgb 31 (by decide)]; exact Ax
                replace HC : Hid (Own n3 n4 wx pc sc) := Ay.noOdd
                replace HA : Hid (Own n1 n2 wx pa (feedR s0 tx.data.toList)) := HA.out.keep Kx (by omega)
                replace HBb : Hid (Own n2 n3 wx pb (feedR s0 tx.data.toList)) := HBb.out.keep Kx (by omega)
                replace HB : Hid (Below w.heap.size w wx) := HB.out.trans (Kx.toBelow HB.out.size (fun i hi => by omega))
                replace HT5 : Hid (Tabs wx) := HT5.out.keepIn Kx (by omega)
                clear Ax Ay Kx
                go_wp2_with fail
                go_at_call 12
                refine (ownFeed HC.out HT5.out (tx.extract j (j + 1)) hsz1).mono ?_
                rintro e w9 ⟨rfl, A9, K9⟩
                rw [cut_one tx j hltj, ← Hnx.out] at A9
                have HC9 : Hid (Own n3 n4 w9 pc (feedR s0 (tx.data.toList.take (j + 1)))) := A9
                replace HA : Hid (Own n1 n2 w9 pa (feedR s0 tx.data.toList)) := HA.out.keep K9 (by omega)
                replace HBb : Hid (Own n2 n3 w9 pb (feedR s0 tx.data.toList)) := HBb.out.keep K9 (by omega)
                replace HB : Hid (Below w.heap.size w w9) := HB.out.trans (K9.toBelow HB.out.size (fun i hi => by omega))
                replace HT5 : Hid (Tabs w9) := HT5.out.keepIn K9 (by omega)
                clear A9 K9 HC
                go_wp2_with fail
                exact ⟨⟨j + 1, by omega, by simp, HA.out, HBb.out, HC9.out, HB.out, HT5.out⟩, by simp only [intOf]; omega⟩
            · have hz2' : ¬ (j : Int) < zn := by omega
              go_wp2_with fail
              generalize hw8 : w7.alloc _ = w8
              have bw8 : Below w7.heap.size w7 w8 := by rw [← hw8]; exact (Below.refl _ _).alloc (Nat.le_refl _) _
              replace HA : Hid (Own n1 n2 w8 pa (feedR s0 tx.data.toList)) := HA.out.below bw8
              replace HBb : Hid (Own n2 n3 w8 pb (feedR s0 tx.data.toList)) := HBb.out.below bw8
              replace HC : Hid (Own n3 n4 w8 pc sc) := HC.out.below bw8
              replace HB : Hid (Below w.heap.size w w8) := HB.out.trans (bw8.mono HB.out.size)
              replace HT5 : Hid (Tabs w8) := HT5.out.below bw8
              clear bw8 hw8
              go_at_call 12
              refine (ownFeed HC.out HT5.out (tx.extract j (j + 1)) hsz1).mono ?_
              rintro e w9 ⟨rfl, A9, K9⟩
              rw [cut_one tx j hltj, ← Hnx.out] at A9
              have HC9 : Hid (Own n3 n4 w9 pc (feedR s0 (tx.data.toList.take (j + 1)))) := A9
              replace HA : Hid (Own n1 n2 w9 pa (feedR s0 tx.data.toList)) := HA.out.keep K9 (by omega)
              replace HBb : Hid (Own n2 n3 w9 pb (feedR s0 tx.data.toList)) := HBb.out.keep K9 (by omega)
              replace HB : Hid (Below w.heap.size w w9) := HB.out.trans (K9.toBelow HB.out.size (fun i hi => by omega))
              replace HT5 : Hid (Tabs w9) := HT5.out.keepIn K9 (by omega)
              clear A9 K9 HC
              go_wp2_with fail
              exact ⟨⟨j + 1, by omega, by simp, HA.out, HBb.out, HC9.out, HB.out, HT5.out⟩, by simp only [intOf]; omega⟩
        · have hltj' : ¬ (j : Int) < tx.size := by omega
          have hke : Hid (tx.data.toList.take j = tx.data.toList) := List.take_of_length_le (by show tx.size ≤ j; omega)
          rw [hke.out] at HC
          go_wp2_with fail
          go_at_call 17
          refine (kSame n1 n2 pa n2 n3 pb _ _ HA.out HBb.out).mono ?_
          rintro e w7 ⟨rfl, b7⟩
          replace HA : Hid (Own n1 n2 w7 pa (feedR s0 tx.data.toList)) := HA.out.below b7
          replace HC : Hid (Own n3 n4 w7 pc (feedR s0 tx.data.toList)) := HC.out.below b7
          replace HB : Hid (Below w.heap.size w w7) := HB.out.trans (b7.mono HB.out.size)
          clear b7
          go_wp2_with fail
          go_at_call 17
          refine (kSame n1 n2 pa n3 n4 pc _ _ HA.out HC.out).mono ?_
          rintro e w8 ⟨rfl, b8⟩
          replace HB : Hid (Below w.heap.size w w8) := HB.out.trans (b8.mono HB.out.size)
          clear b8
          go_wp2_with fail
          go_ret
          exact ⟨rfl, HB.out⟩
end Go.Proofs.YtjlfibhbfdckpaaDoor
