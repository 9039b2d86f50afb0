/- Texts of the proof, one behind the other: RdR. -/
import Derived.Test.YtjlfibhbfdckpaaGreatDoorK20
import Derived.Test.YtjlfibhbfdckpaaGreatDoorK36
import Derived.Deep.DeepCutAuto
/- The document's desk: Cell. -/
namespace Go.Proofs.YtjlfibhbfdckpaaGreatDoor
open Go.RowKit
attribute [local go_sem ↓] Go.wp_at_zero Go.wp_at_succ
set_option maxRecDepth 100000 in
theorem rdCellNil (w : World) (x y : Int) :
    Calls Tryz.prog 39 #[.pointer none, .int .i64 x, .int .i64 y] w fun e w' => e = .returned (.tuple #[noC.agg, .int .i64 1]) ∧ Below w.heap.size w w' := by
  go_enter Tryz.func39, Tryz.ntmps39
  go_wp2_with fail
  exact bodyPost_ret (v := .tuple #[noC.agg, .int .i64 1]) (by simp [results, Tryz.results39, go_sem, noC, Pn.plain]) rfl ⟨rfl, (Below.refl _ _).alloc (Nat.le_refl _) _⟩
section
variable {R : Rm} {L : List Wn} {last : Int}
theorem nd_idx (nd : (L.map Wn.n).Nodup) {i j : Nat} {a b : Wn} (hi : L[i]? = some a) (hj : L[j]? = some b) (h : a.n = b.n) : i = j := by
  have h1 := (List.getElem?_eq_some_iff.1 hi).1
  have h2 := (List.getElem?_eq_some_iff.1 hj).1
  have := List.getElem_inj (i := i) (j := j) (h₀ := by simpa using h1) (h₁ := by simpa using h2) nd
  exact this.1 (by rw [List.getElem_map, List.getElem_map, (List.getElem?_eq_some_iff.1 hi).2, (List.getElem?_eq_some_iff.1 hj).2, h])
set_option maxRecDepth 100000 in
set_option maxHeartbeats 1000000 in
theorem rdCellOff (ok : DOk L last) (w : World) (h : RkAt w R L last) (r : Wn) (hr : L[0]? = some r) (x y : Int) (hin : inG r.W r.H x y = false) :
    Calls Tryz.prog 39 #[.pointer (some ⟨R.d, 0, none⟩), .int .i64 x, .int .i64 y] w fun e w' => e = .returned (.tuple #[noC.agg, .int .i64 4]) ∧ Below w.heap.size w w' := by
  have d0 := h.d0
  obtain ⟨g, cap, hl, hw, hfz, _⟩ := h.sl ok.one
  rw [hl] at d0
  obtain ⟨c0, c1, c2, c3, c4, c5⟩ := hw 0 r hr
  rw [Nat.zero_mul] at c0 c1 c2 c3 c4 c5
  have hv : r ∈ L := List.mem_of_getElem? hr
  have e0 := alloc_cell (h.win r hv).c0 (.cells noArr 38)
  have e1 := alloc_cell (h.win r hv).c1 (.cells noArr 38)
  replace d0 := alloc_cell d0 (.cells noArr 38)
  replace c5 := alloc_cell c5 (.cells noArr 38)
  have hjl := ok.one
  have hjl' : (0 : Int) < (L.length : Int) := by omega
  have C2 : CelAt (w.alloc (.cells noArr 38)) w.heap.size 0 noC := celBox_new w noC 38
  have F2 : ∀ o, (w.alloc (.cells noArr 38)).frozen? ⟨w.heap.size, o, none⟩ = false := frozen_of_block (heap_new w (.cells noArr 38))
  have hb0 : Below w.heap.size w (w.alloc (.cells noArr 38)) := (Below.refl _ _).alloc (Nat.le_refl _) _
  have P4 := put7_at (c := noC) C2
  have B4 : Below w.heap.size w (put7 (w.alloc (.cells noArr 38)) w.heap.size 0 noC) := ((Keep.below (fun i => i = w.heap.size) hb0).put7 w.heap.size 0 noC (fun h => rfl)).toBelow (Nat.le_refl _) (fun i hi => by omega)
  clear h hw hl c0 c1 c2 c3 c4
  go_enter Tryz.func39, Tryz.ntmps39
  go_wp2_with (first | ((go_at_call 92; refine (refIn _ _ _ _ _ _ e0 e1).mono ?_; rintro e w' ⟨rfl, hw'⟩; replace hw' := hw'.symm; subst hw'); generalize w.alloc (.cells noArr 38) = wa at *; obtain ⟨q0, q1, q2, q3, q4, q5, q6⟩ := C2))
  change bodyPost _ _ _ _ _ (put7 wa w.heap.size 0 noC)
  generalize put7 wa w.heap.size 0 noC = w4 at *
  clear q0 q1 q2 q3 q4 q5 q6
  obtain ⟨q0, q1, q2, q3, q4, q5, q6⟩ := P4
  refine bodyPost_ret (v := .tuple #[noC.agg, .int .i64 4]) ?_ rfl ⟨rfl, B4⟩
  simp [results, Tryz.results39, go_sem, q0, q1, q2, q3, q4, q5, q6]
set_option maxRecDepth 100000 in
set_option maxHeartbeats 4000000 in
theorem rdCell {rk : Int → Nat} {K : Nat} (T : Tree L rk K) (ok : DOk L last) (w : World) (h : RkAt w R L last) (r : Wn) (hr : L[0]? = some r) (x y : Nat) (hin : inG r.W r.H x y = true) :
    Calls Tryz.prog 39 #[.pointer (some ⟨R.d, 0, none⟩), .int .i64 x, .int .i64 y] w fun e w' => e = .returned (.tuple #[(picP L K r x y).agg, .int .i64 0]) ∧ Below w.heap.size w w' := by
  have HT : Hid (Tree L rk K) := T
  have Hok : Hid (DOk L last) := ok
  have Hin : Hid (inG r.W r.H x y = true) := hin
  have hv : r ∈ L := List.mem_of_getElem? hr
  have hW := (h.win r hv).w2
  have hH := (h.win r hv).h2
  have hxy := inG_iff.1 hin
  have d0 := h.d0
  obtain ⟨g, cap, hl, hw, hfz, _⟩ := h.sl ok.one
  rw [hl] at d0
  have Hl : Hid (R.l = .slice (some ⟨g, 0, none⟩) L.length cap) := hl
  obtain ⟨c0, c1, c2, c3, c4, c5⟩ := hw 0 r hr
  rw [Nat.zero_mul] at c0 c1 c2 c3 c4 c5
  have e0 := alloc_cell (h.win r hv).c0 (.cells noArr 38)
  have e1 := alloc_cell (h.win r hv).c1 (.cells noArr 38)
  replace d0 := alloc_cell d0 (.cells noArr 38)
  replace c5 := alloc_cell c5 (.cells noArr 38)
  have hjl := ok.one
  have hjl' : (0 : Int) < (L.length : Int) := by omega
  have C2 : CelAt (w.alloc (.cells noArr 38)) w.heap.size 0 noC := celBox_new w noC 38
  have F2 : ∀ o, (w.alloc (.cells noArr 38)).frozen? ⟨w.heap.size, o, none⟩ = false := frozen_of_block (heap_new w (.cells noArr 38))
  have hb0 : Below w.heap.size w (w.alloc (.cells noArr 38)) := (Below.refl _ _).alloc (Nat.le_refl _) _
  have HRa : Hid (RkAt (w.alloc (.cells noArr 38)) R L last) := h.below hb0
  have HB : Hid (Below w.heap.size w (w.alloc (.cells noArr 38))) := hb0
  have HC : Hid (CelAt (w.alloc (.cells noArr 38)) w.heap.size 0 noC) := C2
  have HF : Hid (∀ o, (w.alloc (.cells noArr 38)).frozen? ⟨w.heap.size, o, none⟩ = false) := F2
  have l2 : w.heap.size < (w.alloc (.cells noArr 38)).heap.size := C2.lt
  clear h hw hl c0 c1 c2 c3 c4 C2 F2 hb0 T ok
  obtain ⟨pc, hpc⟩ : ∃ pc, picP L K r x y = pc := ⟨_, rfl⟩
  rw [hpc]
  have Hpc : Hid (pc = picP L K r x y) := hpc.symm
  clear hpc
  go_enter Tryz.func39, Tryz.ntmps39
  go_wp2_with (first | (go_at_call 92; refine (refIn _ _ _ _ _ _ e0 e1).mono ?_; rintro e w' ⟨rfl, hw'⟩; replace hw' := hw'.symm; subst hw'))
  generalize w.alloc (.cells noArr 38) = wa at *
  clear e0 e1 d0 c5
  go_at_call 93
  refine (rdOwner HT.out Hok.out _ HRa.out r hr x y Hin.out).mono ?_
  have hoi := HT.out.ownIn K r x y hv (by omega) Hin.out
  rintro e w1 ⟨j, rfl, hj, b1⟩
  have hpd : pc = picP L K r x y := Hpc.out
  unfold picP at hpd
  obtain ⟨⟨o, X, Y⟩, hO⟩ : ∃ q, ownP L K r x y = q := ⟨_, rfl⟩
  rw [hO] at hj hoi hpd
  simp only [hO]
  dsimp only at hj hoi hpd
  have Hj : Hid (L[j]? = some o) := hj
  have Hpd : Hid (pc = if (o.G X.toNat Y.toNat).p = 1 then halfP L K r o (o.G X.toNat Y.toNat) (x + 1) y else if (o.G X.toNat Y.toNat).p = 2 then halfP L K r o (o.G X.toNat Y.toNat) (x - 1) y else o.G X.toNat Y.toNat) := hpd
  obtain ⟨hoL, hoG⟩ := hoi
  have hXY := inG_iff.1 hoG
  have HR1 : Hid (RkAt w1 R L last) := HRa.out.below b1
  have HB1 : Hid (Below w.heap.size w w1) := HB.out.trans (b1.mono HB.out.size)
  have HC1 : Hid (CelAt w1 w.heap.size 0 noC) := HC.out.below b1 l2
  have HF1 : Hid (∀ o, w1.frozen? ⟨w.heap.size, o, none⟩ = false) := fun o => (b1.marks l2 o).trans (HF.out o)
  have l3 : w.heap.size < w1.heap.size := HC1.out.lt
  obtain ⟨g', cap', hl', hw', _, _⟩ := HR1.out.sl Hok.out.one
  obtain ⟨rfl, rfl⟩ : g = g' ∧ cap = cap' := by have := Hl.out.symm.trans hl'; simpa using this
  have d0 := HR1.out.d0
  rw [hl'] at d0
  obtain ⟨c0, c1, c2, c3, c4, c5⟩ := hw' j o hj
  have hjL : j < L.length := (List.getElem?_eq_some_iff.1 hj).1
  have hjL' : (j : Int) < (L.length : Int) := by omega
  clear hpd hO hw' hl' b1 HRa HB HC HF l2 hj c0 c1 c2 c3 c4
  go_wp2_with fail
  go_at_call 94
  refine (refAt (R.c o.n) (R.g o.n) (R.cap o.n) o.W o.H _ o.G X Y _ (HR1.out.win o hoL) (by omega) (by omega) (by omega) (by omega)).mono ?_
  rintro e w2 ⟨rfl, b2⟩
  have hpart := (HR1.out.wf o hoL).part X.toNat Y.toNat (by omega) (by omega)
  generalize o.G X.toNat Y.toNat = c at *
  have HR2 : Hid (RkAt w2 R L last) := HR1.out.below b2
  have HB2 : Hid (Below w.heap.size w w2) := HB1.out.trans (b2.mono HB1.out.size)
  have HC2 : Hid (CelAt w2 w.heap.size 0 noC) := HC1.out.below b2 l3
  have HF2 : Hid (∀ o, w2.frozen? ⟨w.heap.size, o, none⟩ = false) := fun o => (b2.marks l3 o).trans (HF1.out o)
  have l4 : w.heap.size < w2.heap.size := HC2.out.lt
  clear HR1 HB1 HC1 HF1 b2 l3 d0 c5 hoG hXY
  obtain ⟨cr, cp, cn⟩ := c
  rcases hpart with ⟨hp, _⟩ | ⟨hp, _⟩ | ⟨hp, _⟩
  · dsimp only at hp
    subst hp
    rename_i hwdc
    clear hwdc
    have b3 : Below w2.heap.size w2 (w2.alloc (.cells (celArr (⟨cr, 0, cn⟩ : Cel)) 38)) := (Below.refl _ _).alloc (Nat.le_refl _) _
    have A3 : CelAt (w2.alloc (.cells (celArr (⟨cr, 0, cn⟩ : Cel)) 38)) w2.heap.size 0 (⟨cr, 0, cn⟩ : Cel) := celBox_new w2 (⟨cr, 0, cn⟩ : Cel) 38
    have HC3 : Hid (CelAt (w2.alloc (.cells (celArr (⟨cr, 0, cn⟩ : Cel)) 38)) w.heap.size 0 noC) := HC2.out.below b3 l4
    have HF3 : Hid (∀ o, (w2.alloc (.cells (celArr (⟨cr, 0, cn⟩ : Cel)) 38)).frozen? ⟨w.heap.size, o, none⟩ = false) := fun o => (b3.marks l4 o).trans (HF2.out o)
    have HB3 : Hid (Below w.heap.size w (w2.alloc (.cells (celArr (⟨cr, 0, cn⟩ : Cel)) 38))) := HB2.out.trans (b3.mono HB2.out.size)
    have HR3 : Hid (RkAt (w2.alloc (.cells (celArr (⟨cr, 0, cn⟩ : Cel)) 38)) R L last) := HR2.out.below b3
    obtain ⟨a0, a1, a2, a3, a4, a5, a6⟩ := id A3
    simp only [Nat.zero_add] at a1 a2 a3 a4 a5 a6
    have HA3 : Hid (CelAt (w2.alloc (.cells (celArr (⟨cr, 0, cn⟩ : Cel)) 38)) w2.heap.size 0 (⟨cr, 0, cn⟩ : Cel)) := A3
    have l5 : w.heap.size < (w2.alloc (.cells (celArr (⟨cr, 0, cn⟩ : Cel)) 38)).heap.size := HC3.out.lt
    have l6 : w2.heap.size < (w2.alloc (.cells (celArr (⟨cr, 0, cn⟩ : Cel)) 38)).heap.size := A3.lt
    clear HR2 HB2 HC2 HF2 b3 A3
    obtain rfl : (⟨cr, 0, cn⟩ : Cel) = pc := by rw [Hpd.out, if_neg (by simp), if_neg (by simp)]
    go_upto_if 55 with fail
    generalize (w2.alloc (.cells (celArr (⟨cr, 0, cn⟩ : Cel)) 38)) = w3 at *
    clear a0 a1
    obtain ⟨a0, a1, a2, a3, a4, a5, a6⟩ := HA3.out
    simp only [Nat.zero_add] at a1 a2 a3 a4 a5 a6
    have HP4 : Hid (CelAt (put7 w3 w.heap.size 0 (⟨cr, 0, cn⟩ : Cel)) w.heap.size 0 (⟨cr, 0, cn⟩ : Cel)) := put7_at (c := (⟨cr, 0, cn⟩ : Cel)) HC3.out
    have HB4 : Hid (Below w.heap.size w (put7 w3 w.heap.size 0 (⟨cr, 0, cn⟩ : Cel))) := ((Keep.below (fun i => i = w.heap.size) HB3.out).put7 w.heap.size 0 (⟨cr, 0, cn⟩ : Cel) (fun h => rfl)).toBelow (Nat.le_refl _) (fun i hi => by omega)
    obtain ⟨q0, q1, q2, q3, q4, q5, q6⟩ := HC3.out
    simp only [Nat.zero_add] at q1 q2 q3 q4 q5 q6
    have G5 := HF3.out
    go_wp2_with fail
    change bodyPost _ _ _ _ _ (put7 w3 w.heap.size 0 (⟨cr, 0, cn⟩ : Cel))
    generalize put7 w3 w.heap.size 0 (⟨cr, 0, cn⟩ : Cel) = w4 at *
    clear q0 q1 q2 q3 q4 q5 q6
    obtain ⟨q0, q1, q2, q3, q4, q5, q6⟩ := HP4.out
    simp only [Nat.zero_add] at q1 q2 q3 q4 q5 q6
    refine bodyPost_ret (v := .tuple #[Cel.agg (⟨cr, 0, cn⟩ : Cel), .int .i64 0]) ?_ rfl ⟨rfl, HB4.out⟩
    simp [results, Tryz.results39, go_sem, q0, q1, q2, q3, q4, q5, q6]
  · dsimp only at hp
    subst hp
    rename_i hwdc
    clear hwdc
    have b3 : Below w2.heap.size w2 (w2.alloc (.cells (celArr (⟨cr, 1, cn⟩ : Cel)) 38)) := (Below.refl _ _).alloc (Nat.le_refl _) _
    have A3 : CelAt (w2.alloc (.cells (celArr (⟨cr, 1, cn⟩ : Cel)) 38)) w2.heap.size 0 (⟨cr, 1, cn⟩ : Cel) := celBox_new w2 (⟨cr, 1, cn⟩ : Cel) 38
    have HC3 : Hid (CelAt (w2.alloc (.cells (celArr (⟨cr, 1, cn⟩ : Cel)) 38)) w.heap.size 0 noC) := HC2.out.below b3 l4
    have HF3 : Hid (∀ o, (w2.alloc (.cells (celArr (⟨cr, 1, cn⟩ : Cel)) 38)).frozen? ⟨w.heap.size, o, none⟩ = false) := fun o => (b3.marks l4 o).trans (HF2.out o)
    have HB3 : Hid (Below w.heap.size w (w2.alloc (.cells (celArr (⟨cr, 1, cn⟩ : Cel)) 38))) := HB2.out.trans (b3.mono HB2.out.size)
    have HR3 : Hid (RkAt (w2.alloc (.cells (celArr (⟨cr, 1, cn⟩ : Cel)) 38)) R L last) := HR2.out.below b3
    obtain ⟨a0, a1, a2, a3, a4, a5, a6⟩ := id A3
    simp only [Nat.zero_add] at a1 a2 a3 a4 a5 a6
    have HA3 : Hid (CelAt (w2.alloc (.cells (celArr (⟨cr, 1, cn⟩ : Cel)) 38)) w2.heap.size 0 (⟨cr, 1, cn⟩ : Cel)) := A3
    have l5 : w.heap.size < (w2.alloc (.cells (celArr (⟨cr, 1, cn⟩ : Cel)) 38)).heap.size := HC3.out.lt
    have l6 : w2.heap.size < (w2.alloc (.cells (celArr (⟨cr, 1, cn⟩ : Cel)) 38)).heap.size := A3.lt
    clear HR2 HB2 HC2 HF2 b3 A3
    have Hpp : Hid (pc = halfP L K r o (⟨cr, 1, cn⟩ : Cel) (x + 1) y) := by show _ = _; rw [Hpd.out, if_pos rfl]
    clear Hpd
    unfold halfP at Hpp
    obtain ⟨g', cap', hl', hw', _, _⟩ := HR3.out.sl Hok.out.one
    obtain ⟨rfl, rfl⟩ : g = g' ∧ cap = cap' := by have := Hl.out.symm.trans hl'; simpa using this
    have d0 := HR3.out.d0
    rw [hl'] at d0
    obtain ⟨c0, c1, c2, c3, c4, c5⟩ := hw' 0 r hr
    rw [Nat.zero_mul] at c0 c1 c2 c3 c4 c5
    have e0 := (HR3.out.win r hv).c0
    have e1 := (HR3.out.win r hv).c1
    have sx : IntKind.i64.wrap ((x : Int) + 1) = (x : Int) + 1 := wrap_id _ (by omega) (by omega)
    have sx' : IntKind.i64.wrap ((x : Int) + 1) = (x : Int) + 1 := by rw [show (x : Int) + 1 = (x : Int) + 1 by omega]; exact sx
    clear hw' hl' c0 c1 c2 c3 c4
    cases hth : inG r.W r.H ((x : Int) + 1) y with
    | false =>
      obtain rfl : blk cn = pc := by rw [Hpp.out, if_neg (by simp [hth])]
      go_wp2_with (first | (go_at_call 92; refine (refIn _ _ _ _ _ _ e0 e1).mono ?_; rintro e w' ⟨rfl, hw'⟩; replace hw' := hw'.symm; subst hw'))
      generalize (w2.alloc (.cells (celArr (⟨cr, 1, cn⟩ : Cel)) 38)) = w3 at *
      go_at_call 95
      refine (refBlank cn _).mono ?_
      rintro e w6 ⟨rfl, b6⟩
      replace HC3 : Hid (CelAt w6 w.heap.size 0 noC) := HC3.out.below b6 l5
      replace HF3 : Hid (∀ o, w6.frozen? ⟨w.heap.size, o, none⟩ = false) := fun o => (b6.marks l5 o).trans (HF3.out o)
      replace HB3 : Hid (Below w.heap.size w w6) := HB3.out.trans (b6.mono HB3.out.size)
      clear b6
      have HP4 : Hid (CelAt (put7 w6 w.heap.size 0 (blk cn)) w.heap.size 0 (blk cn)) := put7_at (c := (blk cn)) HC3.out
      have HB4 : Hid (Below w.heap.size w (put7 w6 w.heap.size 0 (blk cn))) := ((Keep.below (fun i => i = w.heap.size) HB3.out).put7 w.heap.size 0 (blk cn) (fun h => rfl)).toBelow (Nat.le_refl _) (fun i hi => by omega)
      obtain ⟨q0, q1, q2, q3, q4, q5, q6⟩ := HC3.out
      simp only [Nat.zero_add] at q1 q2 q3 q4 q5 q6
      have G5 := HF3.out
      go_wp2_with fail
      change bodyPost _ _ _ _ _ (put7 w6 w.heap.size 0 (blk cn))
      generalize put7 w6 w.heap.size 0 (blk cn) = w4 at *
      clear q0 q1 q2 q3 q4 q5 q6
      obtain ⟨q0, q1, q2, q3, q4, q5, q6⟩ := HP4.out
      simp only [Nat.zero_add] at q1 q2 q3 q4 q5 q6
      refine bodyPost_ret (v := .tuple #[Cel.agg (blk cn), .int .i64 0]) ?_ rfl ⟨rfl, HB4.out⟩
      simp [results, Tryz.results39, go_sem, q0, q1, q2, q3, q4, q5, q6]
    | true =>
      go_wp2_with (first | (go_at_call 92; refine (refIn _ _ _ _ _ _ e0 e1).mono ?_; rintro e w' ⟨rfl, hw'⟩; replace hw' := hw'.symm; subst hw'))
      generalize (w2.alloc (.cells (celArr (⟨cr, 1, cn⟩ : Cel)) 38)) = w3 at *
      go_at_call 93
      refine (rdOwner HT.out Hok.out _ HR3.out r hr ((x : Int) + 1) y hth).mono ?_
      rintro e w5 ⟨k, rfl, hk, b5⟩
      have HA5 : Hid (CelAt w5 w2.heap.size 0 (⟨cr, 1, cn⟩ : Cel)) := HA3.out.below b5 l6
      replace HC3 : Hid (CelAt w5 w.heap.size 0 noC) := HC3.out.below b5 l5
      replace HF3 : Hid (∀ o, w5.frozen? ⟨w.heap.size, o, none⟩ = false) := fun o => (b5.marks l5 o).trans (HF3.out o)
      replace HB3 : Hid (Below w.heap.size w w5) := HB3.out.trans (b5.mono HB3.out.size)
      replace l5 : w.heap.size < w5.heap.size := HC3.out.lt
      clear a0 a1 a2 a3 a4 a5 a6 HA3 HR3 b5 d0 c5 e0 e1 l6
      obtain ⟨a0, a1, a2, a3, a4, a5, a6⟩ := HA5.out
      simp only [Nat.zero_add] at a1 a2 a3 a4 a5 a6
      obtain ⟨⟨o', X', Y'⟩, hO'⟩ : ∃ q, ownP L K r ((x : Int) + 1) y = q := ⟨_, rfl⟩
      rw [hO'] at hk Hpp
      simp only [hO']
      dsimp only at hk Hpp
      clear hO'
      by_cases hkj : k = j
      · subst hkj
        have hoo : o' = o := by have := hk.symm.trans Hj.out; injection this
        obtain rfl : (⟨cr, 1, cn⟩ : Cel) = pc := by rw [Hpp.out, if_pos ⟨hth, by rw [hoo]⟩]
        clear hk hoo
        have HP4 : Hid (CelAt (put7 w5 w.heap.size 0 (⟨cr, 1, cn⟩ : Cel)) w.heap.size 0 (⟨cr, 1, cn⟩ : Cel)) := put7_at (c := (⟨cr, 1, cn⟩ : Cel)) HC3.out
        have HB4 : Hid (Below w.heap.size w (put7 w5 w.heap.size 0 (⟨cr, 1, cn⟩ : Cel))) := ((Keep.below (fun i => i = w.heap.size) HB3.out).put7 w.heap.size 0 (⟨cr, 1, cn⟩ : Cel) (fun h => rfl)).toBelow (Nat.le_refl _) (fun i hi => by omega)
        obtain ⟨q0, q1, q2, q3, q4, q5, q6⟩ := HC3.out
        simp only [Nat.zero_add] at q1 q2 q3 q4 q5 q6
        have G5 := HF3.out
        go_wp2_with fail
        change bodyPost _ _ _ _ _ (put7 w5 w.heap.size 0 (⟨cr, 1, cn⟩ : Cel))
        generalize put7 w5 w.heap.size 0 (⟨cr, 1, cn⟩ : Cel) = w4 at *
        clear q0 q1 q2 q3 q4 q5 q6
        obtain ⟨q0, q1, q2, q3, q4, q5, q6⟩ := HP4.out
        simp only [Nat.zero_add] at q1 q2 q3 q4 q5 q6
        refine bodyPost_ret (v := .tuple #[Cel.agg (⟨cr, 1, cn⟩ : Cel), .int .i64 0]) ?_ rfl ⟨rfl, HB4.out⟩
        simp [results, Tryz.results39, go_sem, q0, q1, q2, q3, q4, q5, q6]
      · have hkj' : ((k : Int) == (j : Int)) = false := by simp; omega
        have hkj2 : ¬ (k : Int) = (j : Int) := by omega
        obtain rfl : blk cn = pc := by rw [Hpp.out, if_neg (fun q => hkj (nd_idx HT.out.nd hk Hj.out q.2))]
        clear hk
        go_wp2_with fail
        clear a0 a1 a2 a3 a4 a5 a6
        go_at_call 95
        refine (refBlank cn _).mono ?_
        rintro e w6 ⟨rfl, b6⟩
        replace HC3 : Hid (CelAt w6 w.heap.size 0 noC) := HC3.out.below b6 l5
        replace HF3 : Hid (∀ o, w6.frozen? ⟨w.heap.size, o, none⟩ = false) := fun o => (b6.marks l5 o).trans (HF3.out o)
        replace HB3 : Hid (Below w.heap.size w w6) := HB3.out.trans (b6.mono HB3.out.size)
        clear b6
        have HP4 : Hid (CelAt (put7 w6 w.heap.size 0 (blk cn)) w.heap.size 0 (blk cn)) := put7_at (c := (blk cn)) HC3.out
        have HB4 : Hid (Below w.heap.size w (put7 w6 w.heap.size 0 (blk cn))) := ((Keep.below (fun i => i = w.heap.size) HB3.out).put7 w.heap.size 0 (blk cn) (fun h => rfl)).toBelow (Nat.le_refl _) (fun i hi => by omega)
        obtain ⟨q0, q1, q2, q3, q4, q5, q6⟩ := HC3.out
        simp only [Nat.zero_add] at q1 q2 q3 q4 q5 q6
        have G5 := HF3.out
        go_wp2_with fail
        change bodyPost _ _ _ _ _ (put7 w6 w.heap.size 0 (blk cn))
        generalize put7 w6 w.heap.size 0 (blk cn) = w4 at *
        clear q0 q1 q2 q3 q4 q5 q6
        obtain ⟨q0, q1, q2, q3, q4, q5, q6⟩ := HP4.out
        simp only [Nat.zero_add] at q1 q2 q3 q4 q5 q6
        refine bodyPost_ret (v := .tuple #[Cel.agg (blk cn), .int .i64 0]) ?_ rfl ⟨rfl, HB4.out⟩
        simp [results, Tryz.results39, go_sem, q0, q1, q2, q3, q4, q5, q6]
  · dsimp only at hp
    subst hp
    rename_i hwdc
    clear hwdc
    have b3 : Below w2.heap.size w2 (w2.alloc (.cells (celArr (⟨cr, 2, cn⟩ : Cel)) 38)) := (Below.refl _ _).alloc (Nat.le_refl _) _
    have A3 : CelAt (w2.alloc (.cells (celArr (⟨cr, 2, cn⟩ : Cel)) 38)) w2.heap.size 0 (⟨cr, 2, cn⟩ : Cel) := celBox_new w2 (⟨cr, 2, cn⟩ : Cel) 38
    have HC3 : Hid (CelAt (w2.alloc (.cells (celArr (⟨cr, 2, cn⟩ : Cel)) 38)) w.heap.size 0 noC) := HC2.out.below b3 l4
    have HF3 : Hid (∀ o, (w2.alloc (.cells (celArr (⟨cr, 2, cn⟩ : Cel)) 38)).frozen? ⟨w.heap.size, o, none⟩ = false) := fun o => (b3.marks l4 o).trans (HF2.out o)
    have HB3 : Hid (Below w.heap.size w (w2.alloc (.cells (celArr (⟨cr, 2, cn⟩ : Cel)) 38))) := HB2.out.trans (b3.mono HB2.out.size)
    have HR3 : Hid (RkAt (w2.alloc (.cells (celArr (⟨cr, 2, cn⟩ : Cel)) 38)) R L last) := HR2.out.below b3
    obtain ⟨a0, a1, a2, a3, a4, a5, a6⟩ := id A3
    simp only [Nat.zero_add] at a1 a2 a3 a4 a5 a6
    have HA3 : Hid (CelAt (w2.alloc (.cells (celArr (⟨cr, 2, cn⟩ : Cel)) 38)) w2.heap.size 0 (⟨cr, 2, cn⟩ : Cel)) := A3
    have l5 : w.heap.size < (w2.alloc (.cells (celArr (⟨cr, 2, cn⟩ : Cel)) 38)).heap.size := HC3.out.lt
    have l6 : w2.heap.size < (w2.alloc (.cells (celArr (⟨cr, 2, cn⟩ : Cel)) 38)).heap.size := A3.lt
    clear HR2 HB2 HC2 HF2 b3 A3
    have Hpp : Hid (pc = halfP L K r o (⟨cr, 2, cn⟩ : Cel) (x - 1) y) := by show _ = _; rw [Hpd.out, if_neg (by simp), if_pos rfl]
    clear Hpd
    unfold halfP at Hpp
    obtain ⟨g', cap', hl', hw', _, _⟩ := HR3.out.sl Hok.out.one
    obtain ⟨rfl, rfl⟩ : g = g' ∧ cap = cap' := by have := Hl.out.symm.trans hl'; simpa using this
    have d0 := HR3.out.d0
    rw [hl'] at d0
    obtain ⟨c0, c1, c2, c3, c4, c5⟩ := hw' 0 r hr
    rw [Nat.zero_mul] at c0 c1 c2 c3 c4 c5
    have e0 := (HR3.out.win r hv).c0
    have e1 := (HR3.out.win r hv).c1
    have sx : IntKind.i64.wrap ((x : Int) - 1) = (x : Int) - 1 := wrap_id _ (by omega) (by omega)
    have sx' : IntKind.i64.wrap ((x : Int) + -1) = (x : Int) - 1 := by rw [show (x : Int) + -1 = (x : Int) - 1 by omega]; exact sx
    clear hw' hl' c0 c1 c2 c3 c4
    cases hth : inG r.W r.H ((x : Int) - 1) y with
    | false =>
      obtain rfl : blk cn = pc := by rw [Hpp.out, if_neg (by simp [hth])]
      go_wp2_with (first | (go_at_call 92; refine (refIn _ _ _ _ _ _ e0 e1).mono ?_; rintro e w' ⟨rfl, hw'⟩; replace hw' := hw'.symm; subst hw'))
      generalize (w2.alloc (.cells (celArr (⟨cr, 2, cn⟩ : Cel)) 38)) = w3 at *
      go_at_call 95
      refine (refBlank cn _).mono ?_
      rintro e w6 ⟨rfl, b6⟩
      replace HC3 : Hid (CelAt w6 w.heap.size 0 noC) := HC3.out.below b6 l5
      replace HF3 : Hid (∀ o, w6.frozen? ⟨w.heap.size, o, none⟩ = false) := fun o => (b6.marks l5 o).trans (HF3.out o)
      replace HB3 : Hid (Below w.heap.size w w6) := HB3.out.trans (b6.mono HB3.out.size)
      clear b6
      have HP4 : Hid (CelAt (put7 w6 w.heap.size 0 (blk cn)) w.heap.size 0 (blk cn)) := put7_at (c := (blk cn)) HC3.out
      have HB4 : Hid (Below w.heap.size w (put7 w6 w.heap.size 0 (blk cn))) := ((Keep.below (fun i => i = w.heap.size) HB3.out).put7 w.heap.size 0 (blk cn) (fun h => rfl)).toBelow (Nat.le_refl _) (fun i hi => by omega)
      obtain ⟨q0, q1, q2, q3, q4, q5, q6⟩ := HC3.out
      simp only [Nat.zero_add] at q1 q2 q3 q4 q5 q6
      have G5 := HF3.out
      go_wp2_with fail
      change bodyPost _ _ _ _ _ (put7 w6 w.heap.size 0 (blk cn))
      generalize put7 w6 w.heap.size 0 (blk cn) = w4 at *
      clear q0 q1 q2 q3 q4 q5 q6
      obtain ⟨q0, q1, q2, q3, q4, q5, q6⟩ := HP4.out
      simp only [Nat.zero_add] at q1 q2 q3 q4 q5 q6
      refine bodyPost_ret (v := .tuple #[Cel.agg (blk cn), .int .i64 0]) ?_ rfl ⟨rfl, HB4.out⟩
      simp [results, Tryz.results39, go_sem, q0, q1, q2, q3, q4, q5, q6]
    | true =>
      go_wp2_with (first | (go_at_call 92; refine (refIn _ _ _ _ _ _ e0 e1).mono ?_; rintro e w' ⟨rfl, hw'⟩; replace hw' := hw'.symm; subst hw'))
      generalize (w2.alloc (.cells (celArr (⟨cr, 2, cn⟩ : Cel)) 38)) = w3 at *
      go_at_call 93
      refine (rdOwner HT.out Hok.out _ HR3.out r hr ((x : Int) - 1) y hth).mono ?_
      rintro e w5 ⟨k, rfl, hk, b5⟩
      have HA5 : Hid (CelAt w5 w2.heap.size 0 (⟨cr, 2, cn⟩ : Cel)) := HA3.out.below b5 l6
      replace HC3 : Hid (CelAt w5 w.heap.size 0 noC) := HC3.out.below b5 l5
      replace HF3 : Hid (∀ o, w5.frozen? ⟨w.heap.size, o, none⟩ = false) := fun o => (b5.marks l5 o).trans (HF3.out o)
      replace HB3 : Hid (Below w.heap.size w w5) := HB3.out.trans (b5.mono HB3.out.size)
      replace l5 : w.heap.size < w5.heap.size := HC3.out.lt
      clear a0 a1 a2 a3 a4 a5 a6 HA3 HR3 b5 d0 c5 e0 e1 l6
      obtain ⟨a0, a1, a2, a3, a4, a5, a6⟩ := HA5.out
      simp only [Nat.zero_add] at a1 a2 a3 a4 a5 a6
      obtain ⟨⟨o', X', Y'⟩, hO'⟩ : ∃ q, ownP L K r ((x : Int) - 1) y = q := ⟨_, rfl⟩
      rw [hO'] at hk Hpp
      simp only [hO']
      dsimp only at hk Hpp
      clear hO'
      by_cases hkj : k = j
      · subst hkj
        have hoo : o' = o := by have := hk.symm.trans Hj.out; injection this
        obtain rfl : (⟨cr, 2, cn⟩ : Cel) = pc := by rw [Hpp.out, if_pos ⟨hth, by rw [hoo]⟩]
        clear hk hoo
        have HP4 : Hid (CelAt (put7 w5 w.heap.size 0 (⟨cr, 2, cn⟩ : Cel)) w.heap.size 0 (⟨cr, 2, cn⟩ : Cel)) := put7_at (c := (⟨cr, 2, cn⟩ : Cel)) HC3.out
        have HB4 : Hid (Below w.heap.size w (put7 w5 w.heap.size 0 (⟨cr, 2, cn⟩ : Cel))) := ((Keep.below (fun i => i = w.heap.size) HB3.out).put7 w.heap.size 0 (⟨cr, 2, cn⟩ : Cel) (fun h => rfl)).toBelow (Nat.le_refl _) (fun i hi => by omega)
        obtain ⟨q0, q1, q2, q3, q4, q5, q6⟩ := HC3.out
        simp only [Nat.zero_add] at q1 q2 q3 q4 q5 q6
        have G5 := HF3.out
        go_wp2_with fail
        change bodyPost _ _ _ _ _ (put7 w5 w.heap.size 0 (⟨cr, 2, cn⟩ : Cel))
        generalize put7 w5 w.heap.size 0 (⟨cr, 2, cn⟩ : Cel) = w4 at *
        clear q0 q1 q2 q3 q4 q5 q6
        obtain ⟨q0, q1, q2, q3, q4, q5, q6⟩ := HP4.out
        simp only [Nat.zero_add] at q1 q2 q3 q4 q5 q6
        refine bodyPost_ret (v := .tuple #[Cel.agg (⟨cr, 2, cn⟩ : Cel), .int .i64 0]) ?_ rfl ⟨rfl, HB4.out⟩
        simp [results, Tryz.results39, go_sem, q0, q1, q2, q3, q4, q5, q6]
      · have hkj' : ((k : Int) == (j : Int)) = false := by simp; omega
        have hkj2 : ¬ (k : Int) = (j : Int) := by omega
        obtain rfl : blk cn = pc := by rw [Hpp.out, if_neg (fun q => hkj (nd_idx HT.out.nd hk Hj.out q.2))]
        clear hk
        go_wp2_with fail
        clear a0 a1 a2 a3 a4 a5 a6
        go_at_call 95
        refine (refBlank cn _).mono ?_
        rintro e w6 ⟨rfl, b6⟩
        replace HC3 : Hid (CelAt w6 w.heap.size 0 noC) := HC3.out.below b6 l5
        replace HF3 : Hid (∀ o, w6.frozen? ⟨w.heap.size, o, none⟩ = false) := fun o => (b6.marks l5 o).trans (HF3.out o)
        replace HB3 : Hid (Below w.heap.size w w6) := HB3.out.trans (b6.mono HB3.out.size)
        clear b6
        have HP4 : Hid (CelAt (put7 w6 w.heap.size 0 (blk cn)) w.heap.size 0 (blk cn)) := put7_at (c := (blk cn)) HC3.out
        have HB4 : Hid (Below w.heap.size w (put7 w6 w.heap.size 0 (blk cn))) := ((Keep.below (fun i => i = w.heap.size) HB3.out).put7 w.heap.size 0 (blk cn) (fun h => rfl)).toBelow (Nat.le_refl _) (fun i hi => by omega)
        obtain ⟨q0, q1, q2, q3, q4, q5, q6⟩ := HC3.out
        simp only [Nat.zero_add] at q1 q2 q3 q4 q5 q6
        have G5 := HF3.out
        go_wp2_with fail
        change bodyPost _ _ _ _ _ (put7 w6 w.heap.size 0 (blk cn))
        generalize put7 w6 w.heap.size 0 (blk cn) = w4 at *
        clear q0 q1 q2 q3 q4 q5 q6
        obtain ⟨q0, q1, q2, q3, q4, q5, q6⟩ := HP4.out
        simp only [Nat.zero_add] at q1 q2 q3 q4 q5 q6
        refine bodyPost_ret (v := .tuple #[Cel.agg (blk cn), .int .i64 0]) ?_ rfl ⟨rfl, HB4.out⟩
        simp [results, Tryz.results39, go_sem, q0, q1, q2, q3, q4, q5, q6]
end
end Go.Proofs.YtjlfibhbfdckpaaGreatDoor
