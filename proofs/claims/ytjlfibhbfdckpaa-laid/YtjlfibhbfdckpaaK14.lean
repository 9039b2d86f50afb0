/- Texts of the proof, one behind the other: LaF, LaG. -/
import Derived.Test.YtjlfibhbfdckpaaK13
import Derived.Test.YtjlfibhbfdckpaaRows
import Derived.WalkKit
import Derived.ProofKit
import Derived.OpenShut
import Derived.ShutString
import Derived.ChangeOld
import Derived.Below
/- Laid: the walk. -/
namespace Go.Proofs.Ytjlfibhbfdckpaa
open Go.RowKit
attribute [local go_sem ↓] Go.wp_at_zero Go.wp_at_succ
set_option maxRecDepth 100000 in
set_option maxHeartbeats 4000000 in
theorem kLaid (x y v z : Int) (s : ByteArray) (p : Pn) (w : World) (hw : 0 ≤ w.heap.size) (hs : s.size ≤ 9223372036854775807) (x0 : -9223372036854775808 ≤ x) (x1 : x ≤ 9223372036854775807) (y0 : -9223372036854775808 ≤ y) (y1 : y ≤ 9223372036854775807) (v0 : -9223372036854775808 ≤ v) (v1 : v ≤ 9223372036854775807) (z0 : -9223372036854775808 ≤ z) (z1 : z ≤ 9223372036854775807) (f0 : -9223372036854775808 ≤ p.f) (f1 : p.f ≤ 9223372036854775807) (b0 : -9223372036854775808 ≤ p.b) (b1 : p.b ≤ 9223372036854775807) :
    Calls Try.prog 4 #[.int .i64 x, .int .i64 y, .int .i64 v, .int .i64 z, .string s, p.agg] w fun e w' => e = .returned (.bool true) ∧ Below w.heap.size w w' := by
  have Hp0 : Hid ((-9223372036854775808 ≤ p.f ∧ p.f ≤ 9223372036854775807) ∧ (-9223372036854775808 ≤ p.b ∧ p.b ≤ 9223372036854775807)) := ⟨⟨f0, f1⟩, ⟨b0, b1⟩⟩
  clear f0 f1 b0 b1
  obtain ⟨q, hq⟩ : ∃ q, penK p = q := ⟨_, rfl⟩
  have Hq : Hid (penK p = q) := hq
  clear hq
  obtain ⟨pf, pb, bo, un, re⟩ := p
  go_enter Try.func4, Try.ntmps4
  go_wp2_with fail
  go_at_call 7
  refine (kOpens _ (by simp)).mono ?_
  rintro e wa ⟨rfl, hba⟩
  have HBa : Hid (Below w.heap.size w wa) := ((Below.refl _ _).alloc (Nat.le_refl _) _).trans (hba.mono (by simp))
  have HPa : Hid (wa.heap[w.heap.size]? = some (.cells #[.int .i64 pf, .int .i64 pb, .bool bo, .bool un, .bool re] 26)) := by
    show _ = _
    rw [hba.block _ (by simp)]
    exact heap_new _ _
  clear hba
  go_wp2_with fail
  go_at_call 8
  refine (kNew 10 5 _ (by omega) (by omega) (by omega) (by omega) (Nat.le_trans hw HBa.out.size)).mono ?_
  rintro e wb ⟨M, rfl, D1, B1, O1⟩
  have HD1 : Hid (DkAt wb M [rootW 10 5] 0 (5 * 10) (newR 10 5) newT) := D1
  have HB1 : Hid (Below wa.heap.size wa wb) := B1
  have HO1 : Hid (∀ i, M.own [rootW 10 5] i → wa.heap.size ≤ i) := O1
  clear D1 B1 O1
  go_wp2_with fail
  go_at_call 9
  refine (kPick x 14 _ (by omega) (by omega) x0 x1).mono ?_
  rintro e w2 ⟨rfl, hw2⟩
  subst hw2
  have hx14 := pickK_lt x (n := 14) (by omega)
  generalize pickK x 14 = xx at hx14 ⊢
  have sx : IntKind.i64.wrap ((xx : Int) - 3) = (xx : Int) - 3 := wrap_id _ (by omega) (by omega)
  go_wp2_with fail
  go_at_call 9
  refine (kPick y 8 _ (by omega) (by omega) y0 y1).mono ?_
  rintro e w2 ⟨rfl, hw2⟩
  subst hw2
  have hy14 := pickK_lt y (n := 8) (by omega)
  generalize pickK y 8 = yy at hy14 ⊢
  have sy : IntKind.i64.wrap ((yy : Int) - 2) = (yy : Int) - 2 := wrap_id _ (by omega) (by omega)
  go_wp2_with fail
  go_at_call 9
  refine (kPick v 10 _ (by omega) (by omega) v0 v1).mono ?_
  rintro e w2 ⟨rfl, hw2⟩
  subst hw2
  have hv14 := pickK_lt v (n := 10) (by omega)
  generalize pickK v 10 = vv at hv14 ⊢
  have sv : IntKind.i64.wrap ((vv : Int) - 3) = (vv : Int) - 3 := wrap_id _ (by omega) (by omega)
  go_wp2_with fail
  go_at_call 9
  refine (kPick z 6 _ (by omega) (by omega) z0 z1).mono ?_
  rintro e w2 ⟨rfl, hw2⟩
  subst hw2
  have hz14 := pickK_lt z (n := 6) (by omega)
  generalize pickK z 6 = zz at hz14 ⊢
  have sz : IntKind.i64.wrap ((zz : Int) - 2) = (zz : Int) - 2 := wrap_id _ (by omega) (by omega)
  have HPb : Hid (w2.heap[w.heap.size]? = some (.cells #[.int .i64 pf, .int .i64 pb, .bool bo, .bool un, .bool re] 26)) := by
    show _ = _
    rw [HB1.out.block _ (Array.getElem?_eq_some_iff.1 HPa.out).1]
    exact HPa.out
  have c0 := cell_of_block HPb.out 0
  have c1 := cell_of_block HPb.out 1
  have c2 := cell_of_block HPb.out 2
  have c3 := cell_of_block HPb.out 3
  have c4 := cell_of_block HPb.out 4
  have cf := frozen_of_block HPb.out
  go_wp2_with fail
  go_at_call 10
  refine (kPen ⟨pf, pb, bo, un, re⟩ _ Hp0.out.1.1 Hp0.out.1.2 Hp0.out.2.1 Hp0.out.2.2).mono ?_
  rw [Hq.out]
  rintro e w3 ⟨rfl, hb3⟩
  clear c0 c1 c2 c3 c4 cf
  have HB3 : Hid (Below w2.heap.size w2 w3) := hb3
  have HPc : Hid (w3.heap[w.heap.size]? = some (.cells #[.int .i64 pf, .int .i64 pb, .bool bo, .bool un, .bool re] 26)) := by
    show _ = _
    rw [HB3.out.block _ (Array.getElem?_eq_some_iff.1 HPb.out).1]
    exact HPb.out
  clear hb3
  have c0 := cell_of_block HPc.out 0
  have c1 := cell_of_block HPc.out 1
  have c2 := cell_of_block HPc.out 2
  have c3 := cell_of_block HPc.out 3
  have c4 := cell_of_block HPc.out 4
  have cf := frozen_of_block HPc.out
  go_wp2_with fail
  have HL0 : Hid (Lst (((((w3.setCell ⟨w.heap.size, 0, none⟩ (.int .i64 q.f)).setCell ⟨w.heap.size, 1, none⟩ (.int .i64 q.b)).setCell ⟨w.heap.size, 2, none⟩ (.bool q.bo)).setCell ⟨w.heap.size, 3, none⟩ (.bool q.un)).setCell ⟨w.heap.size, 4, none⟩ (.bool q.re)) (fun i => i < wa.heap.size) (M.t 0) [rootW 10 5] 0 (((((w3.setCell ⟨w.heap.size, 0, none⟩ (.int .i64 q.f)).setCell ⟨w.heap.size, 1, none⟩ (.int .i64 q.b)).setCell ⟨w.heap.size, 2, none⟩ (.bool q.bo)).setCell ⟨w.heap.size, 3, none⟩ (.bool q.un)).setCell ⟨w.heap.size, 4, none⟩ (.bool q.re)) ∧ Below w.heap.size w (((((w3.setCell ⟨w.heap.size, 0, none⟩ (.int .i64 q.f)).setCell ⟨w.heap.size, 1, none⟩ (.int .i64 q.b)).setCell ⟨w.heap.size, 2, none⟩ (.bool q.bo)).setCell ⟨w.heap.size, 3, none⟩ (.bool q.un)).setCell ⟨w.heap.size, 4, none⟩ (.bool q.re)) ∧ PenAt (((((w3.setCell ⟨w.heap.size, 0, none⟩ (.int .i64 q.f)).setCell ⟨w.heap.size, 1, none⟩ (.int .i64 q.b)).setCell ⟨w.heap.size, 2, none⟩ (.bool q.bo)).setCell ⟨w.heap.size, 3, none⟩ (.bool q.un)).setCell ⟨w.heap.size, 4, none⟩ (.bool q.re)) w.heap.size 0 q ∧ w.heap.size < wa.heap.size) := by
    obtain ⟨hp, hk⟩ := pen_put (p := ⟨pf, pb, bo, un, re⟩) HPc.out q
    have l1 : w.heap.size < wa.heap.size := (Array.getElem?_eq_some_iff.1 HPa.out).1
    have O := HO1.out
    have B3 : Below w.heap.size w w3 := (HBa.out.trans (HB1.out.mono HBa.out.size)).trans (HB3.out.mono (Nat.le_trans HBa.out.size HB1.out.size))
    exact ⟨⟨M, _, _, _, rfl, (HD1.out.below HB3.out).keep hk (fun i hi e => by have := O i hi; omega), fun i hi h => by have := O i hi; omega, fun i hi => Nat.lt_of_lt_of_le hi (Nat.le_trans HB1.out.size (Nat.le_trans HB3.out.size hk.size)), Keep.refl _ _⟩, B3.trans (hk.toBelow B3.size (fun i hi e => by omega)), hp, l1⟩
  generalize (((((w3.setCell ⟨w.heap.size, 0, none⟩ (.int .i64 q.f)).setCell ⟨w.heap.size, 1, none⟩ (.int .i64 q.b)).setCell ⟨w.heap.size, 2, none⟩ (.bool q.bo)).setCell ⟨w.heap.size, 3, none⟩ (.bool q.un)).setCell ⟨w.heap.size, 4, none⟩ (.bool q.re)) = w4 at HL0 ⊢
  have Hq2 : Hid (penB q = true) := by rw [← Hq.out]; exact penK_ok _
  generalize M.t 0 = d at HL0 ⊢
  have sw : w.heap.size < wa.heap.size := HL0.out.2.2.2
  generalize wa.heap.size = B0 at HL0 sw ⊢
  have HB4 : Hid (Below w.heap.size w w4) := HL0.out.2.1
  have HP4 : Hid (PenAt w4 w.heap.size 0 q) := HL0.out.2.2.1
  have HL : Hid (Lst w4 (fun i => i < B0) d [rootW 10 5] 0 w4) := HL0.out.1
  clear HL0
  clear c0 c1 c2 c3 c4 cf HPc HB3 HPb HB1 HD1 HO1 HPa HBa Hp0 Hq
  go_at_call 11
  refine (lCreate HL.out (ok_root 10 5) (rootW 10 5) (by simp) _ _ 6 3 (by omega) (by omega) (by omega) (by omega) (placeB_iff.2 (by omega)) (by simp) (by omega)).mono ?_
  rintro e w5 ⟨rfl, hL⟩
  have HL2 : Hid (Lst w4 (fun i => i < B0) d [rootW 10 5, oneW (xx - 3) (yy - 2)] 1 w5) := hL
  clear hL HL
  go_wp2_with fail
  go_at_call 11
  refine (lCreate HL2.out (two_ok _ _ (by omega)) (oneW (xx - 3) (yy - 2)) (by simp) _ _ 4 2 (by omega) (by omega) (by omega) (by omega) (placeB_iff.2 (by omega)) (by simp) (by omega)).mono ?_
  rintro e w6 ⟨rfl, hL⟩
  have HL3 : Hid (Lst w4 (fun i => i < B0) d (laidL (xx - 3) (yy - 2) (vv - 3) (zz - 2) (fun _ _ => blk Pn.plain)) 2 w6) := hL
  clear hL HL2
  go_wp2_with fail
  go_loopw [20, 21] (fun l i w' => ∃ (k : Nat) (m : List UInt8), k ≤ s.size ∧ i = .int .i64 k ∧ l = .string ⟨m.toArray⟩ ∧ m.length ≤ 4 ∧ (∀ c ∈ m, 32 < c.toNat ∧ c.toNat < 127) ∧ w' = w6) (fun _ i _ => s.size - (intOf i).toNat)
  case atStart => exact ⟨0, [], by omega, rfl, rfl, by simp, by simp, rfl⟩
  case round =>
    obtain ⟨k, m, hk, rfl, rfl, hm, hc, rfl⟩ := hrel
    have Hc : Hid (∀ c ∈ m, 32 < c.toNat ∧ c.toNat < 127) := hc
    clear hc
    by_cases hgo : k < s.size ∧ m.length < 4
    · obtain ⟨hk1, hm1⟩ := hgo
      go_wp2_with fail
      all_goals first
        | (refine ⟨⟨k + 1, m, by omega, by simp, rfl, hm, Hc.out, trivial⟩, ?_⟩; simp [intOf]; omega)
        | (rw [add_byte m s k hk1]; refine ⟨⟨k + 1, _, by omega, by simp, rfl, by simp; omega, ?_, trivial⟩, by simp [intOf]; omega⟩; intro c hc; rcases List.mem_append.1 hc with hc | hc; exact Hc.out c hc; simp at hc; subst hc; omega)
    · obtain ⟨l, hl⟩ : ∃ l : List Int, m.map (fun c => (c.toNat : Int)) = l := ⟨_, rfl⟩
      have hll : l.length = m.length := by rw [← hl]; simp
      have Hl : Hid (m.map (fun c => (c.toNat : Int)) = l) := hl
      clear hl
      have hend : s.size ≤ k ∨ (k < s.size ∧ m.length = 4) := by omega
      have Hw : Hid (updL (laidL (xx - 3) (yy - 2) (vv - 3) (zz - 2) (fun _ _ => blk Pn.plain)) 2 (fun u => { u with G := writeAll 4 2 1 q 0 (runesG ⟨m.toArray⟩ (ByteArray.mk m.toArray).size 0) (fun _ _ => blk Pn.plain) }) = laidL (xx - 3) (yy - 2) (vv - 3) (zz - 2) (lineG l q)) := by
        show _ = _
        rw [laid_write, runes_ascii _ Hc.out _ 0 (by omega), List.drop_zero]
        have := write_line q l [] (by intro r hr; rw [← Hl.out] at hr; obtain ⟨c, hc, rfl⟩ := List.mem_map.1 hr; have := Hc.out c hc; exact wd_asc ⟨c.toNat, this.2⟩ this.1) (by simp; omega)
        rw [lineG_nil] at this
        rw [← Hl.out] at this ⊢
        exact congrArg _ this
      clear hgo
      obtain ⟨c0, c1, c2, c3, c4⟩ := HL3.out.pen HP4.out sw
      rcases hend with hend | ⟨hend1, hend2⟩
      all_goals
        go_wp2_with fail
        go_at_call 12
        refine (lWrite HL3.out (laid_ok _ _ _ _ _ (by omega) (by omega)) (twoW (vv - 3) (zz - 2) (fun _ _ => blk Pn.plain)) (by simp [laidL]) 0 1 (by decide) ⟨m.toArray⟩ (by simp [ByteArray.size]; omega) q Hq2.out).mono ?_
        rintro e w7 ⟨rfl, hL⟩
        have HL4 : Hid (Lst w4 (fun i => i < B0) d (laidL (xx - 3) (yy - 2) (vv - 3) (zz - 2) (lineG l q)) 2 w7) := by
          show Lst _ _ _ _ _ _
          rw [← Hw.out]
          exact hL
        clear hL HL3 Hw c0 c1 c2 c3 c4
        go_wp2_with fail
        go_loopw [23] (fun i w' => ∃ (a : Nat), a ≤ 5 ∧ i = .int .i64 a ∧ Lst w4 (fun i => i < B0) d (laidL (xx - 3) (yy - 2) (vv - 3) (zz - 2) (lineG l q)) 2 w') (fun i _ => 5 - (intOf i).toNat)
        case atStart => exact ⟨0, by omega, rfl, HL4.out⟩
        case round =>
          clear HL4
          obtain ⟨a, ha, rfl, hL⟩ := hrel
          have HL5 : Hid (Lst w4 (fun i => i < B0) d (laidL (xx - 3) (yy - 2) (vv - 3) (zz - 2) (lineG l q)) 2 wr) := hL
          clear hL
          by_cases hlt : a < 5
          · have hlt' : (a : Int) < 5 := by omega
            go_wp2_with fail
            go_loopw [24] (fun i w' => ∃ (b : Nat), b ≤ 10 ∧ i = .int .i64 b ∧ Lst w4 (fun i => i < B0) d (laidL (xx - 3) (yy - 2) (vv - 3) (zz - 2) (lineG l q)) 2 w') (fun i _ => 10 - (intOf i).toNat)
            case atStart => exact ⟨0, by omega, rfl, HL5.out⟩
            case round =>
              clear HL5
              obtain ⟨b, hb, rfl, hL⟩ := hrel
              have HL6 : Hid (Lst w4 (fun i => i < B0) d (laidL (xx - 3) (yy - 2) (vv - 3) (zz - 2) (lineG l q)) 2 wr) := hL
              clear hL
              by_cases hlb : b < 10
              · have hlb' : (b : Int) < 10 := by omega
                go_wp2_with fail
                go_at_call 13
                refine (lCell HL6.out (laid_tree _ _ _ _ _) (laid_ok _ _ _ _ _ (by omega) (by omega)) (rootW 10 5) (by simp [laidL]) rfl b a hlb hlt).mono ?_
                rw [laid_pic _ _ _ _ _ _ (by omega)]
                rintro e w8 ⟨rfl, hb8⟩
                have HL7 : Hid (Lst w4 (fun i => i < B0) d (laidL (xx - 3) (yy - 2) (vv - 3) (zz - 2) (lineG l q)) 2 w8) := HL6.out.below hb8
                clear hb8 HL6
                have s1 : IntKind.i64.wrap ((xx : Int) - 3 + 6) = (xx : Int) - 3 + 6 := wrap_id _ (by omega) (by omega)
                have s2 : IntKind.i64.wrap ((yy : Int) - 2 + 3) = (yy : Int) - 2 + 3 := wrap_id _ (by omega) (by omega)
                have s3 : IntKind.i64.wrap ((yy : Int) - 2 + (zz - 2)) = (yy : Int) - 2 + (zz - 2) := wrap_id _ (by omega) (by omega)
                have s4 : IntKind.i64.wrap ((yy : Int) - 2 + (zz - 2) + 1) = (yy : Int) - 2 + (zz - 2) + 1 := wrap_id _ (by omega) (by omega)
                have s5 : IntKind.i64.wrap ((b : Int) - (xx - 3)) = (b : Int) - (xx - 3) := wrap_id _ (by omega) (by omega)
                have s6 : IntKind.i64.wrap ((b : Int) - (xx - 3) - (vv - 3)) = (b : Int) - (xx - 3) - (vv - 3) := wrap_id _ (by omega) (by omega)
                by_cases hin : ((xx : Int) - 3 ≤ b ∧ (b : Int) < xx - 3 + 6 ∧ (yy : Int) - 2 ≤ a ∧ (a : Int) < yy - 2 + 3) ∧ (a : Int) = yy - 2 + (zz - 2) + 1 ∧ 0 ≤ (b : Int) - (xx - 3) - (vv - 3) ∧ (b : Int) - (xx - 3) - (vv - 3) < l.length
                · have hwc : wantC (xx - 3) (yy - 2) (vv - 3) (zz - 2) l q b a = ⟨l.getD ((b : Int) - (xx - 3) - (vv - 3)).toNat 0, 0, q⟩ := if_pos hin
                  rw [hwc]
                  clear hwc
                  obtain ⟨⟨t1, t2, t3, t4⟩, t5, t6, t7⟩ := hin
                  rw [hll] at t7
                  obtain ⟨at', hat⟩ : ∃ n : Nat, (b : Int) - (xx - 3) - (vv - 3) = n := ⟨((b : Int) - (xx - 3) - (vv - 3)).toNat, by omega⟩
                  rw [hat] at s6 t6 t7 ⊢
                  have t8 : at' < m.length := by omega
                  have t5' : (yy : Int) - 2 + (zz - 2) + 1 = a := t5.symm
                  rw [t5'] at s4
                  clear t5
                  obtain ⟨c0, c1, c2, c3, c4⟩ := HL7.out.pen HP4.out sw
                  have hsz : w.heap.size < w8.heap.size := (HL7.out.pen HP4.out sw).lt
                  have hch : l.getD at' 0 = ((m[at']'t8).toNat : Int) := by rw [← Hl.out]; simp [List.getD, t8]
                  rw [Int.toNat_natCast, hch]
                  have s8 : IntKind.i32.wrap ((m[at']'t8).toNat : Int) = ((m[at']'t8).toNat : Int) := by have := Hc.out _ (List.getElem_mem t8); rw [IntKind.wrap_i32]; omega
                  have hby : (ByteArray.mk m.toArray)[at']'(by simp [ByteArray.size]; exact t8) = m[at']'t8 := by simp [ByteArray.getElem_eq_getElem_data]
                  go_wp2_with fail
                  go_region
                  all_goals
                    go_wp2_with fail
                    refine ⟨⟨b + 1, by omega, by simp, HL7.out.below ?_⟩, by simp [intOf]; omega⟩
                    exact below_two _ _ _
                · have hwc : wantC (xx - 3) (yy - 2) (vv - 3) (zz - 2) l q b a = ⟨32, 0, ⟨0, 0, false, false, false⟩⟩ := if_neg hin
                  rw [hwc]
                  clear hwc
                  obtain ⟨ee, hee⟩ : ∃ e : Int, (yy : Int) - 2 + (zz - 2) + 1 = e := ⟨_, rfl⟩
                  obtain ⟨tt, htt⟩ : ∃ t : Int, (b : Int) - (xx - 3) - (vv - 3) = t := ⟨_, rfl⟩
                  rw [hee] at s4 hin
                  rw [htt] at s6 hin
                  rw [hll] at hin
                  have hcase : (¬ (xx : Int) - 3 ≤ b) ∨ ((xx : Int) - 3 ≤ b ∧ ¬ (b : Int) < xx - 3 + 6) ∨ ((xx : Int) - 3 ≤ b ∧ (b : Int) < xx - 3 + 6 ∧ ¬ (yy : Int) - 2 ≤ a) ∨ ((xx : Int) - 3 ≤ b ∧ (b : Int) < xx - 3 + 6 ∧ (yy : Int) - 2 ≤ a ∧ ¬ (a : Int) < yy - 2 + 3) ∨ ((xx : Int) - 3 ≤ b ∧ (b : Int) < xx - 3 + 6 ∧ (yy : Int) - 2 ≤ a ∧ (a : Int) < yy - 2 + 3 ∧ ¬ (a : Int) = ee) ∨ ((xx : Int) - 3 ≤ b ∧ (b : Int) < xx - 3 + 6 ∧ (yy : Int) - 2 ≤ a ∧ (a : Int) < yy - 2 + 3 ∧ (a : Int) = ee ∧ ¬ 0 ≤ tt) ∨ ((xx : Int) - 3 ≤ b ∧ (b : Int) < xx - 3 + 6 ∧ (yy : Int) - 2 ≤ a ∧ (a : Int) < yy - 2 + 3 ∧ (a : Int) = ee ∧ 0 ≤ tt ∧ ¬ tt < m.length) := by omega
                  clear hin
                  rcases hcase with g1 | ⟨g1, g2⟩ | ⟨g1, g2, g3⟩ | ⟨g1, g2, g3, g4⟩ | ⟨g1, g2, g3, g4, g5⟩ | ⟨g1, g2, g3, g4, rfl, g6⟩ | ⟨g1, g2, g3, g4, rfl, g6, g7⟩
                  all_goals
                    go_wp2_with fail
                    exact ⟨⟨b + 1, by omega, by simp, HL7.out.below (below_two' _ _ _)⟩, by simp [intOf]; omega⟩
              · obtain rfl : b = 10 := by omega
                go_wp2_with fail
                go_roundw
                case rel => exact ⟨a + 1, by omega, by simp, HL6.out⟩
                case measure => simp [intOf]; omega
          · obtain rfl : a = 5 := by omega
            go_wp2_with fail
            go_at_call 14
            refine (lCells HL5.out (laid_tree _ _ _ _ _) (laid_ok _ _ _ _ _ (by omega) (by omega)) (rootW 10 5) (by simp [laidL]) rfl rfl rfl).mono ?_
            rintro e w9 ⟨g1, cap1, rfl, hr1, hb1⟩
            have Hg1 : Hid (wr.heap.size ≤ g1 ∧ g1 < w9.heap.size) := hr1.lt g1 rfl
            have HR1 : Hid (w9.ownsRow wr.heap.size 39 7 (.slice (some ⟨g1, 0, none⟩) 50 cap1) 50 (flat (cellsTo 10 (picG (laidL (xx - 3) (yy - 2) (vv - 3) (zz - 2) (lineG l q)) 2 (rootW 10 5)) 50))) := hr1
            have HB9 : Hid (Below w.heap.size w w9) := (HL5.out.bel HB4.out (fun i hi => Nat.lt_trans hi sw)).trans (hb1.mono (HL5.out.bel HB4.out (fun i hi => Nat.lt_trans hi sw)).size)
            have sB0 : Hid (B0 ≤ w9.heap.size) := Nat.le_trans (Lst.lo HL5.out) hb1.size
            have HM0 : Hid (Lst w9 (fun i => i < B0 ∨ i = g1) d (laidL (xx - 3) (yy - 2) (vv - 3) (zz - 2) (lineG l q)) 2 w9) := HL5.out.more hb1 (fun i hi => by
              rcases hi with hi | hi
              · exact ⟨Or.inl hi, Nat.lt_of_lt_of_le hi sB0.out⟩
              · subst hi; exact ⟨Or.inr Hg1.out.1, Hg1.out.2⟩)
            clear hr1 hb1 HL5
            have s7 : IntKind.i64.wrap ((xx : Int) - 3 + 1) = (xx : Int) - 3 + 1 := wrap_id _ (by omega) (by omega)
            go_wp2_with fail
            go_at_call 15
            refine (lRaiseLow HM0.out (laid_ok _ _ _ _ _ (by omega) (by omega)) (twoW (vv - 3) (zz - 2) (lineG l q)) (oneW (xx - 3) (yy - 2)) (by simp [laidL]) (by simp [laidL]) rfl (show (2 : Int) ≠ 1 by decide) rfl).mono ?_
            rintro e m0 ⟨rfl, hL⟩
            have HM1 : Hid (Lst w9 (fun i => i < B0 ∨ i = g1) d (botB (xx - 3) (yy - 2) (vv - 3) (zz - 2) (lineG l q)) 2 m0) := hL
            clear hL HM0
            go_wp2_with fail
            go_at_call 15
            refine (lRaiseUp HM1.out (botB_ok _ _ _ _ _ (by omega) (by omega)) (twoW (vv - 3) (zz - 2) (lineG l q)) (oneW (xx - 3) (yy - 2)) (by simp [botB]) (by simp [botB]) rfl (show (2 : Int) ≠ 1 by decide)).mono ?_
            rintro e m1 ⟨rfl, hL⟩
            have HM2 : Hid (Lst w9 (fun i => i < B0 ∨ i = g1) d (laidL (xx - 3) (yy - 2) (vv - 3) (zz - 2) (lineG l q)) 2 m1) := hL
            clear hL HM1
            go_wp2_with fail
            go_at_call 16
            refine (lShow HM2.out (laid_ok _ _ _ _ _ (by omega) (by omega)) (oneW (xx - 3) (yy - 2)) (by simp [laidL]) (show (0 : Int) ≠ -1 by decide) false).mono ?_
            rintro e m2 ⟨rfl, hL⟩
            have HM3 : Hid (Lst w9 (fun i => i < B0 ∨ i = g1) d (hidL (xx - 3) (yy - 2) (vv - 3) (zz - 2) (lineG l q)) 2 m2) := hL
            clear hL HM2
            go_wp2_with fail
            go_at_call 16
            refine (lShow HM3.out (hidL_ok _ _ _ _ _ (by omega) (by omega)) (oneH (xx - 3) (yy - 2)) (by simp [hidL]) (show (0 : Int) ≠ -1 by decide) true).mono ?_
            rintro e m3 ⟨rfl, hL⟩
            have HM4 : Hid (Lst w9 (fun i => i < B0 ∨ i = g1) d (laidL (xx - 3) (yy - 2) (vv - 3) (zz - 2) (lineG l q)) 2 m3) := hL
            clear hL HM3
            go_wp2_with fail
            go_at_call 17
            refine (lMove HM4.out (laid_ok _ _ _ _ _ (by omega) (by omega)) (oneW (xx - 3) (yy - 2)) (by simp [laidL]) (show (0 : Int) ≠ -1 by decide) _ _ (placeB_iff.2 (by omega))).mono ?_
            rintro e m4 ⟨rfl, hL⟩
            have HM5 : Hid (Lst w9 (fun i => i < B0 ∨ i = g1) d (laidL (xx - 3 + 1) (yy - 2) (vv - 3) (zz - 2) (lineG l q)) 2 m4) := hL
            clear hL HM4
            go_wp2_with fail
            go_at_call 17
            refine (lMove HM5.out (laid_ok _ _ _ _ _ (by omega) (by omega)) (oneW (xx - 3 + 1) (yy - 2)) (by simp [laidL]) (show (0 : Int) ≠ -1 by decide) _ _ (placeB_iff.2 (by omega))).mono ?_
            rintro e m5 ⟨rfl, hL⟩
            have HM6 : Hid (Lst w9 (fun i => i < B0 ∨ i = g1) d (laidL (xx - 3) (yy - 2) (vv - 3) (zz - 2) (lineG l q)) 2 m5) := hL
            clear hL HM5
            go_wp2_with fail
            go_at_call 18
            refine (lGive HM6.out (laid_ok _ _ _ _ _ (by omega) (by omega)) (twoW (vv - 3) (zz - 2) (lineG l q)) (oneW (xx - 3) (yy - 2)) (rootW 10 5) (by simp [laidL]) (by simp [laidL]) (by simp [laidL]) rfl (show (2 : Int) ≠ 1 by decide) (laid_sub _ _ _ _ _)).mono ?_
            rintro e m6 ⟨rfl, hL⟩
            have HM7 : Hid (Lst w9 (fun i => i < B0 ∨ i = g1) d (awayL (xx - 3) (yy - 2) (vv - 3) (zz - 2) (lineG l q)) 2 m6) := hL
            clear hL HM6
            go_wp2_with fail
            go_at_call 18
            refine (lGive HM7.out (awayL_ok _ _ _ _ _ (by omega) (by omega)) (twoA (vv - 3) (zz - 2) (lineG l q)) (rootW 10 5) (oneW (xx - 3) (yy - 2)) (by simp [awayL]) (by simp [awayL]) (by simp [awayL]) rfl (show (2 : Int) ≠ 0 by decide) (away_sub _ _ _ _ _)).mono ?_
            rintro e m7 ⟨rfl, hL⟩
            have HM8 : Hid (Lst w9 (fun i => i < B0 ∨ i = g1) d (laidL (xx - 3) (yy - 2) (vv - 3) (zz - 2) (lineG l q)) 2 m7) := hL
            clear hL HM7
            go_wp2_with fail
            go_at_call 14
            refine (lCells HM8.out (laid_tree _ _ _ _ _) (laid_ok _ _ _ _ _ (by omega) (by omega)) (rootW 10 5) (by simp [laidL]) rfl rfl rfl).mono ?_
            rintro e wz ⟨g2, cap2, rfl, hr2, hb2⟩
            have HBz : Hid (Below w.heap.size w wz) := (HM8.out.bel HB9.out (fun i hi => Or.inl (Nat.lt_trans hi sw))).trans (hb2.mono (HM8.out.bel HB9.out (fun i hi => Or.inl (Nat.lt_trans hi sw))).size)
            have hg : Hid (wz.heap[g1]? = w9.heap[g1]?) := (hb2.block _ (Nat.lt_of_lt_of_le Hg1.out.2 HM8.out.size)).trans (HM8.out.same (Or.inr rfl))
            obtain ⟨C, hC⟩ : ∃ C, cellsTo 10 (picG (laidL (xx - 3) (yy - 2) (vv - 3) (zz - 2) (lineG l q)) 2 (rootW 10 5)) 50 = C := ⟨_, rfl⟩
            have hCl : C.length = 50 := by rw [← hC]; exact cellsTo_length _ _ _
            have HC1 : Hid (∀ i c, C[i]? = some c → CelAt wz g1 (i * 7) c) := fun i c h => (row_cel HR1.out i c (by rw [hC]; exact h)).same hg.out
            have HC2 : Hid (∀ i c, C[i]? = some c → CelAt wz g2 (i * 7) c) := fun i c h => row_cel hr2 i c (by rw [hC]; exact h)
            clear hr2 hb2 HM8 hC hg HR1 HB9
            go_wp2_with fail
            go_loopw [32] (fun i w' => ∃ (n : Nat), n ≤ 50 ∧ i = .int .i64 n ∧ Below wz.heap.size wz w') (fun i _ => 50 - (intOf i).toNat)
            case atStart => exact ⟨0, by omega, rfl, Below.refl _ _⟩
            case round =>
              obtain ⟨n, hn, rfl, hbn⟩ := hrel
              by_cases hn5 : n < 50
              · have hn5' : (n : Int) < 50 := by omega
                obtain ⟨c, hc⟩ : ∃ c, C[n]? = some c := ⟨C[n], List.getElem?_eq_getElem (by omega)⟩
                obtain ⟨d0, d1, d2, d3, d4, d5, d6⟩ := (HC1.out n c hc).below hbn (HC1.out n c hc).lt
                obtain ⟨e0, e1, e2, e3, e4, e5, e6⟩ := (HC2.out n c hc).below hbn (HC2.out n c hc).lt
                go_wp2_with fail
                go_region
                all_goals
                  go_wp2_with fail
                  exact ⟨⟨n + 1, by omega, by simp, hbn.drew⟩, by simp [intOf]; omega⟩
              · obtain rfl : n = 50 := by omega
                go_wp2_with fail
                go_ret
                exact ⟨rfl, HBz.out.trans (hbn.mono HBz.out.size)⟩
end Go.Proofs.Ytjlfibhbfdckpaa

/- The proof of Laid: the row. -/
namespace Go.Proofs.Ytjlfibhbfdckpaa.laid
open Go.ChangeShapes Go.WideShapes Go.ChangeAt Go.RowKit
open Go.ChangeMaps (open_string shut_string)
set_option linter.unusedVariables false
theorem own : ownKnob Try.prog.godebug = none := by kernel_rfl
theorem laidOut : laidOutB Try.prog = true := by kernel_rfl
theorem array5 {α : Type} {cs : Array α} (h : cs.size = 5) : ∃ c0 c1 c2 c3 c4, cs = #[c0, c1, c2, c3, c4] := by
  obtain ⟨l⟩ := cs
  match l, h with
  | [c0, c1, c2, c3, c4], _ => exact ⟨c0, c1, c2, c3, c4, rfl⟩
set_option maxRecDepth 100000 in
theorem open_pen {H : Type} {enc : TypeId × Value → H} {W : World} {r : Reach} {b0 base : Nat} {spare : Nat → Bool} {held : Bool} {v : Value} {d : DataW H} {ps : List MemPlace} (hv : Value.okWide Try.prog W r b0 26 v) (h : DataW.Trod enc Try.prog W base spare held 26 v d ps) :
    ∃ n : Pn, v = n.agg ∧ (-9223372036854775808 ≤ n.f ∧ n.f ≤ 9223372036854775807) ∧ (-9223372036854775808 ≤ n.b ∧ n.b ≤ 9223372036854775807) := by
  obtain ⟨cs, rfl, hsz⟩ := okWide_struct Try.underlying26 hv
  obtain ⟨c0, c1, c2, c3, c4, rfl⟩ := array5 (hsz.trans (by kernel_rfl))
  obtain ⟨fuel, hf⟩ := h
  obtain ⟨xs, n, _, _, _, hxl, hx⟩ := DataW.trod_struct Try.underlying26 hf
  have ki : Try.prog.cellsOf 3 = 1 := by kernel_rfl
  have kb : Try.prog.cellsOf 4 = 1 := by kernel_rfl
  have e0 : DataW.trod enc Try.prog W base spare held n 3 (([c0, c1, c2, c3, c4].drop 0).take (Try.prog.cellsOf 3)) = xs[0]? := hx 0 _ rfl
  have e1 : DataW.trod enc Try.prog W base spare held n 3 (([c0, c1, c2, c3, c4].drop 1).take (Try.prog.cellsOf 3)) = xs[1]? := hx 1 _ rfl
  have e2 : DataW.trod enc Try.prog W base spare held n 4 (([c0, c1, c2, c3, c4].drop 2).take (Try.prog.cellsOf 4)) = xs[2]? := hx 2 _ rfl
  have e3 : DataW.trod enc Try.prog W base spare held n 4 (([c0, c1, c2, c3, c4].drop 3).take (Try.prog.cellsOf 4)) = xs[3]? := hx 3 _ rfl
  have e4 : DataW.trod enc Try.prog W base spare held n 4 (([c0, c1, c2, c3, c4].drop 4).take (Try.prog.cellsOf 4)) = xs[4]? := hx 4 _ rfl
  have hl : xs.length = 5 := hxl
  rw [List.getElem?_eq_getElem (by omega)] at e0 e1 e2 e3 e4
  rw [ki] at e0 e1
  rw [kb] at e2 e3 e4
  obtain ⟨n0, q0, _, b0⟩ := DataW.trod_int Try.underlying3 e0
  obtain ⟨n1, q1, _, b1⟩ := DataW.trod_int Try.underlying3 e1
  obtain ⟨n2, q2, _⟩ := DataW.trod_bool Try.underlying4 e2
  obtain ⟨n3, q3, _⟩ := DataW.trod_bool Try.underlying4 e3
  obtain ⟨n4, q4, _⟩ := DataW.trod_bool Try.underlying4 e4
  simp only [List.drop_zero, List.drop_succ_cons, List.take_succ_cons, List.take_zero, List.cons.injEq, and_true] at q0 q1 q2 q3 q4
  subst q0 q1 q2 q3 q4
  exact ⟨⟨n0, n1, n2, n3, n4⟩, rfl, bounds_i64 b0, bounds_i64 b1⟩
/-! ### THE ROW's STEP -/
set_option maxRecDepth 100000 in
theorem lifted (os : Os) (started : os.Started) (H : Type) (enc : TypeId × Value → H) :
    ReturnsInHanded {} Try.checked os 4 .any (Rows.laidSpec.pre6 enc Try.prog Try.f4 Rows.laidRow.domain false) (Rows.laidSpec.post enc Try.prog Try.f4 false true false false) := by
  refine returnsInHanded_of_change (C := Try.checked) own started (by kernel_rfl) Try.func4
    (ChangeSpec.witness6 (enc := enc) (C := Try.checked) false ⟨#[], #[.int .i64 0, .int .i64 0, .int .i64 0, .int .i64 0, .string ⟨#[]⟩, .agg #[.int .i64 0, .int .i64 0, .bool false, .bool false, .bool false]], []⟩ 8 (by kernel_rfl) (by kernel_rfl) (by kernel_rfl) (by kernel_rfl)) ?_
  intro W base args ds gs before hval0 hW hcnd _
  have hval : ∀ (j : Nat) t v, Try.f4.params[j]? = some t → args[j]? = some v → Value.okWide Try.prog W .any base t v := hval0
  have hW' := hW
  obtain ⟨p, q, hA0, hV, rfl, hfz, hnd⟩ := hW
  have hA : DataW.TrodAll enc Try.prog W 0 (fun _ => true) true Try.f4.params.toList args.toList ds p := hA0
  rw [Try.params4] at hA hval
  obtain ⟨v0, vs0, d0, ds0, p0, q0, hargs, rfl, rfl, h0, r0⟩ := trodAll_cons hA
  obtain ⟨v1, vs1, d1, ds1, p1, q1, hargs1, rfl, rfl, h1, r1⟩ := trodAll_cons r0
  obtain ⟨v2, vs2, d2, ds2, p2, q2, hargs2, rfl, rfl, h2, r2⟩ := trodAll_cons r1
  obtain ⟨v3, vs3, d3, ds3, p3, q3, hargs3, rfl, rfl, h3, r3⟩ := trodAll_cons r2
  obtain ⟨v4, vs4, d4, ds4, p4, q4, hargs4, rfl, rfl, h4, r4⟩ := trodAll_cons r3
  obtain ⟨v5, vs5, d5, ds5, p5, q5, hargs5, rfl, rfl, h5, r5⟩ := trodAll_cons r4
  obtain ⟨rfl, rfl, rfl⟩ := trodAll_nil r5
  subst hargs5 hargs4 hargs3 hargs2 hargs1
  obtain rfl : args = #[v0, v1, v2, v3, v4, v5] := by cases args; simp_all
  obtain ⟨rfl, rfl⟩ := trodVars_none hV
  have k0 := h0
  have lt0 : ∀ x ∈ p0, x.block < W.heap.size := by obtain ⟨m, hm⟩ := k0; exact DataW.trod_lt m _ _ _ hm
  have k1 := h1
  have lt1 : ∀ x ∈ p1, x.block < W.heap.size := by obtain ⟨m, hm⟩ := k1; exact DataW.trod_lt m _ _ _ hm
  have k2 := h2
  have lt2 : ∀ x ∈ p2, x.block < W.heap.size := by obtain ⟨m, hm⟩ := k2; exact DataW.trod_lt m _ _ _ hm
  have k3 := h3
  have lt3 : ∀ x ∈ p3, x.block < W.heap.size := by obtain ⟨m, hm⟩ := k3; exact DataW.trod_lt m _ _ _ hm
  have k4 := h4
  have lt4 : ∀ x ∈ p4, x.block < W.heap.size := by obtain ⟨m, hm⟩ := k4; exact DataW.trod_lt m _ _ _ hm
  have k5 := h5
  have lt5 : ∀ x ∈ p5, x.block < W.heap.size := by obtain ⟨m, hm⟩ := k5; exact DataW.trod_lt m _ _ _ hm
  obtain ⟨x, rfl, _, _, bx⟩ := open_int Try.underlying3 (hval 0 3 v0 rfl rfl) h0
  obtain ⟨y, rfl, _, _, byy⟩ := open_int Try.underlying3 (hval 1 3 v1 rfl rfl) h1
  obtain ⟨v, rfl, _, _, bv⟩ := open_int Try.underlying3 (hval 2 3 v2 rfl rfl) h2
  obtain ⟨z, rfl, _, _, bz⟩ := open_int Try.underlying3 (hval 3 3 v3 rfl rfl) h3
  obtain ⟨tx, rfl, _, _, ht⟩ := open_string Try.underlying9 (hval 4 9 v4 rfl rfl) h4
  obtain ⟨pn, rfl, bf, bb⟩ := open_pen (hval 5 26 v5 rfl rfl) h5
  unfold maxLen at ht
  have b0 := bounds_i64 bx
  have b1 := bounds_i64 byy
  have b2 := bounds_i64 bv
  have b3 := bounds_i64 bz
  clear hA0 hval0
  refine (kLaid x y v z tx pn W (Nat.zero_le _) (by omega) b0.1 b0.2 b1.1 b1.2 b2.1 b2.2 b3.1 b3.2 bf.1 bf.2 bb.1 bb.2).mono fun e W' ⟨he, bel⟩ => ?_
  subst he
  exact ⟨_, rfl, _, _, _, [], _, [], hW', trodAll_mk1 (shut_bool Try.underlying4 _), (trodAll_cons_mk (Below.trod laidOut (by kernel_rfl) (of_decide_eq_true (by kernel_rfl)) k0 bel lt0) (trodAll_cons_mk (Below.trod laidOut (by kernel_rfl) (of_decide_eq_true (by kernel_rfl)) k1 bel lt1) (trodAll_cons_mk (Below.trod laidOut (by kernel_rfl) (of_decide_eq_true (by kernel_rfl)) k2 bel lt2) (trodAll_cons_mk (Below.trod laidOut (by kernel_rfl) (of_decide_eq_true (by kernel_rfl)) k3 bel lt3) (trodAll_cons_mk (Below.trod laidOut (by kernel_rfl) (of_decide_eq_true (by kernel_rfl)) k4 bel lt4) (trodAll_cons_mk (Below.trod laidOut (by kernel_rfl) (of_decide_eq_true (by kernel_rfl)) k5 bel lt5) trodAll_mk0)))))), rfl, bel.frame _, fun h => by cases h⟩
theorem over : Rows.laidRow.holds Try.pinned (OpenSpec.ofChange Rows.laidSpec) :=
  OpenClaim.holds_of_wide 4 Try.f4 rfl rfl rfl rfl rfl rfl rfl ⟨rfl, rfl, rfl, rfl, rfl⟩ rfl rfl rfl rfl rfl (by kernel_rfl) Try.func4 (by kernel_rfl)
    (of_decide_eq_true (by kernel_rfl)) (by unfold Func.isWrapper; first | (rw [if_pos (by decide +kernel)]; kernel_rfl) | (rw [if_neg (by decide +kernel)]; exact ⟨rfl, rfl⟩))
    (fun os started H enc _ => lifted os started H enc)
theorem proved : Rows.LaidSaid := over
end Go.Proofs.Ytjlfibhbfdckpaa.laid
namespace Go.Proofs.Ytjlfibhbfdckpaa
theorem laid_holds : Rows.LaidSaid := laid.proved
#print axioms laid_holds
end Go.Proofs.Ytjlfibhbfdckpaa
