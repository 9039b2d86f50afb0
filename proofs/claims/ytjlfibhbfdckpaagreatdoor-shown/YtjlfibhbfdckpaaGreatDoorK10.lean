/- Texts of the proof, one behind the other: DkC, PlO, PnA, DkN, DkE, Dk3. -/
import Derived.Test.YtjlfibhbfdckpaaGreatDoorK02
import Derived.Test.YtjlfibhbfdckpaaGreatDoorK08
import Derived.Test.YtjlfibhbfdckpaaGreatDoorK09
import Derived.LaidEqlPtr
/- The program's desk: half, Cell, the call's Cell. -/
namespace Go.Proofs.YtjlfibhbfdckpaaGreatDoor
open Go.RowKit
attribute [local go_sem ↓] Go.wp_at_zero Go.wp_at_succ
abbrev noArr : Array Value := #[.int .i32 0, .int .i64 0, .int .i64 0, .int .i64 0, .bool false, .bool false, .bool false]
abbrev celArr' (c : Cel) : Array Value := #[.int .i32 c.r, .int .i64 c.p, .int .i64 c.n.f, .int .i64 c.n.b, .bool c.n.bo, .bool c.n.un, .bool c.n.re]
theorem cel_block {w : World} {b : Nat} {c : Cel} {t : TypeId} (h : w.heap[b]? = some (.cells (celArr' c) t)) : CelAt w b 0 c := by
  refine ⟨?_, ?_, ?_, ?_, ?_, ?_, ?_⟩ <;> rw [cell_of_block h] <;> rfl
theorem celBox_new (w : World) (c : Cel) (t : TypeId) : CelAt (w.alloc (.cells (celArr' c) t)) w.heap.size 0 c := cel_block (heap_new w _)
theorem winInfo : (Tryz.prog.info? 131).map (fun i => i.size) = some 7 := by kernel_rfl
theorem ptr_same (a : Addr) (w : World) : (binOp .eql 111 (.pointer (some a)) (.pointer (some a))).run Tryz.prog w = .ok (.bool true) w := by
  obtain ⟨j, hj, _⟩ := Option.map_eq_some_iff.1 winInfo
  exact run_eql_ptr_same w a Tryz.underlying111 hj
theorem ptr_other {a b : Addr} {ca cb : Array Value} {ta tb : TypeId} (w : World) (hne : a ≠ b) (ha : w.heap[a.block]? = some (.cells ca ta)) (hb : w.heap[b.block]? = some (.cells cb tb)) : (binOp .eql 111 (.pointer (some a)) (.pointer (some b))).run Tryz.prog w = .ok (.bool false) w := by
  obtain ⟨j, hj, hs⟩ := Option.map_eq_some_iff.1 winInfo
  exact run_eql_ptr_other w Tryz.underlying111 hj (by omega) hne ha hb
def noC : Cel := ⟨0, 0, Pn.plain⟩
set_option maxRecDepth 100000 in
set_option maxHeartbeats 2000000 in
theorem dHalf {M : Mm} {L : List Wn} {last : Int} {N : Nat} {s : Rs} {t : Pt} {rk : Int → Nat} {K : Nat} (T : Tree L rk K) (ok : DOk L last) (w : World) (h : DkAt w M L last N s t) (r : Wn) (hr : r ∈ L) (hr0 : r.n = 0) (o : Wn) (ho : o ∈ L) (c : Cel) (x y : Int) (res : Cel) (hres : res = halfP L K r o c x y) :
    Calls Tryz.prog 105 #[.pointer (some ⟨M.t 1, 0, none⟩), M.ptr o.n, c.agg, .int .i64 x, .int .i64 y] w fun e w' => e = .returned res.agg ∧ Below w.heap.size w w' := by
  have HD : Hid (DkAt w M L last N s t) := h
  have HT : Hid (Tree L rk K) := T
  have Hok : Hid (DOk L last) := ok
  have Hres : Hid (res = halfP L K r o c x y) := hres
  have Hbi : Hid (∀ u ∈ L, u.n ≠ o.n → M.b u.n ≠ M.b o.n) := fun u hu e e' => e (h.b_inj hu ho e')
  clear h T ok hres
  go_enter Tryz.func105, Tryz.ntmps105
  go_wp2_with fail
  have hb0 : Below w.heap.size w ((w.alloc (.cells (celArr' c) 38)).alloc (.cells noArr 38)) := ((Below.refl _ _).alloc (Nat.le_refl _) _).alloc (by simp) _
  have C1 : CelAt ((w.alloc (.cells (celArr' c) 38)).alloc (.cells noArr 38)) w.heap.size 0 c := (celBox_new w c _).below ((Below.refl _ _).alloc (Nat.le_refl _) _) (by simp)
  have C2 : CelAt ((w.alloc (.cells (celArr' c) 38)).alloc (.cells noArr 38)) (w.heap.size + 1) 0 noC := by
    have := celBox_new (w.alloc (.cells (celArr' c) 38)) noC 38
    rw [World.size_alloc] at this
    exact this
  have F2 : ∀ o, ((w.alloc (.cells (celArr' c) 38)).alloc (.cells noArr 38)).frozen? ⟨w.heap.size + 1, o, none⟩ = false := by
    have := frozen_of_block (heap_new (w.alloc (.cells (celArr' c) 38)) (.cells noArr 38))
    rw [World.size_alloc] at this
    exact this
  generalize (w.alloc (.cells (celArr' c) 38)).alloc (.cells noArr 38) = wa at *
  have HDa : Hid (DkAt wa M L last N s t) := HD.out.below hb0
  clear HD
  have l2 : w.heap.size + 1 < wa.heap.size := C2.lt
  by_cases hin : inG r.W r.H x y = true
  · obtain ⟨i1, i2, i3, i4⟩ := inG_iff.1 hin
    obtain ⟨x, rfl⟩ := Int.eq_ofNat_of_zero_le i1
    obtain ⟨y, rfl⟩ := Int.eq_ofNat_of_zero_le i3
    have Hin : Hid (inG r.W r.H x y = true) := hin
    have hx : x < r.W := by omega
    have hy : y < r.H := by omega
    clear i1 i2 i3 i4
    go_wp2_with (first | (go_at_call 42; refine (dHas _ HDa.out r hr hr0 _ _).mono ?_; rintro e w' ⟨rfl, hw'⟩; replace hw' := hw'.symm; subst hw'))
    go_at_call 104
    refine (dSeen HT.out Hok.out _ HDa.out r hr hr0 x y hx hy).mono ?_
    rintro e wb ⟨v, a, b, hv, ha, hb, hown, rfl, hbb⟩
    have D1 := C1.below hbb (by omega)
    have D2 := C2.below hbb (by omega)
    have G2 := fun o => (hbb.marks l2 o).trans (F2 o)
    have hB : Below w.heap.size w wb := hb0.trans (hbb.mono hb0.size)
    have l3 : w.heap.size + 1 < wb.heap.size := D2.lt
    have Hown : Hid (ownP L K r x y = (v, (a : Int), (b : Int))) := hown
    have hbb' := hbb
    clear hown C1 C2 F2 hbb
    generalize v.G a b = vc
    have hbk : Below wb.heap.size wb (wb.alloc (.cells (celArr' vc) 38)) := (Below.refl _ _).alloc (Nat.le_refl _) _
    have E1 := D1.below hbk (by omega)
    have E2 := D2.below hbk (by omega)
    have EF := fun o => (hbk.marks l3 o).trans (G2 o)
    have EB : Below w.heap.size w (wb.alloc (.cells (celArr' vc) 38)) := hB.trans (hbk.mono hB.size)
    have Hwb : Hid (Below wa.heap.size wa (wb.alloc (.cells (celArr' vc) 38))) := hbb'.trans (hbk.mono hbb'.size)
    obtain ⟨p0, p1, p2, p3, p4, p5, p6⟩ := E1
    obtain ⟨q0, q1, q2, q3, q4, q5, q6⟩ := E2
    clear hbk D1 D2 G2 hbb'
    by_cases hvo : v.n = o.n
    · have hh : res = c := by rw [Hres.out]; unfold halfP; rw [if_pos ⟨Hin.out, by rw [Hown.out]; exact hvo⟩]
      subst hh
      go_wp2_with fail
      generalize wb.alloc (.cells (celArr' vc) 38) = wc at *
      have heq := ptr_same ⟨M.b o.n, 0, none⟩ wc
      have P4 := put7_at (c := res) (show CelAt wc (w.heap.size + 1) 0 noC from ⟨q0, q1, q2, q3, q4, q5, q6⟩)
      have B4 : Below w.heap.size w (put7 wc (w.heap.size + 1) 0 res) := ((Keep.below (fun i => i = w.heap.size + 1) EB).put7 (w.heap.size + 1) 0 res (fun h => rfl)).toBelow (Nat.le_refl _) (fun i hi => by omega)
      rw [heq]
      go_simp
      go_wp2_with fail
      change bodyPost _ _ _ _ _ (put7 wc (w.heap.size + 1) 0 res)
      generalize put7 wc (w.heap.size + 1) 0 res = w4 at *
      obtain ⟨q0, q1, q2, q3, q4, q5, q6⟩ := P4
      refine bodyPost_ret (v := res.agg) ?_ rfl ⟨rfl, B4⟩
      simp [results, Tryz.results105, go_sem, q0, q1, q2, q3, q4, q5, q6]
    · have hne := Hbi.out v hv hvo
      have hh : res = blk c.n := by rw [Hres.out]; unfold halfP; rw [if_neg]; rintro ⟨_, e⟩; rw [Hown.out] at e; exact hvo e
      subst hh
      go_wp2_with fail
      generalize wb.alloc (.cells (celArr' vc) 38) = wc at *
      have heq := ptr_other (a := ⟨M.b v.n, 0, none⟩) (b := ⟨M.b o.n, 0, none⟩) wc (by simp) ((Hwb.out.block _ (HDa.out.win v hv).lt).trans (HDa.out.win v hv).blk) ((Hwb.out.block _ (HDa.out.win o ho).lt).trans (HDa.out.win o ho).blk)
      rw [heq]
      go_simp
      go_wp2_with fail
      go_at_call 147
      refine (pBlank c.n _).mono ?_
      rintro e wd ⟨rfl, hbb⟩
      have l4 : w.heap.size + 1 < wc.heap.size := CelAt.lt (show CelAt wc (w.heap.size + 1) 0 noC from ⟨q0, q1, q2, q3, q4, q5, q6⟩)
      have D2 := CelAt.below (show CelAt wc (w.heap.size + 1) 0 noC from ⟨q0, q1, q2, q3, q4, q5, q6⟩) hbb l4
      have G2 := fun o => (hbb.marks l4 o).trans (EF o)
      have hB5 : Below w.heap.size w wd := EB.trans (hbb.mono EB.size)
      have P4 := put7_at (c := blk c.n) D2
      have B4 : Below w.heap.size w (put7 wd (w.heap.size + 1) 0 (blk c.n)) := ((Keep.below (fun i => i = w.heap.size + 1) hB5).put7 (w.heap.size + 1) 0 (blk c.n) (fun h => rfl)).toBelow (Nat.le_refl _) (fun i hi => by omega)
      clear q0 q1 q2 q3 q4 q5 q6 hbb EF heq p0 p1 p2 p3 p4 p5 p6
      obtain ⟨q0, q1, q2, q3, q4, q5, q6⟩ := D2
      go_wp2_with fail
      change bodyPost _ _ _ _ _ (put7 wd (w.heap.size + 1) 0 (blk c.n))
      generalize put7 wd (w.heap.size + 1) 0 (blk c.n) = w4 at *
      obtain ⟨q0, q1, q2, q3, q4, q5, q6⟩ := P4
      refine bodyPost_ret (v := (blk c.n).agg) ?_ rfl ⟨rfl, B4⟩
      simp [results, Tryz.results105, go_sem, q0, q1, q2, q3, q4, q5, q6]
  · have hinf : inG r.W r.H x y = false := by simpa using hin
    have hh : res = blk c.n := by rw [Hres.out]; unfold halfP; rw [if_neg (by simp [hin])]
    subst hh
    obtain ⟨p0, p1, p2, p3, p4, p5, p6⟩ := C1
    go_wp2_with (first | (go_at_call 42; refine (dHas _ HDa.out r hr hr0 _ _).mono ?_; rintro e w' ⟨rfl, hw'⟩; replace hw' := hw'.symm; subst hw'))
    go_at_call 147
    refine (pBlank c.n _).mono ?_
    rintro e wb ⟨rfl, hbb⟩
    have D2 := C2.below hbb (by omega)
    have G2 := fun o => (hbb.marks l2 o).trans (F2 o)
    have hB : Below w.heap.size w wb := hb0.trans (hbb.mono hb0.size)
    have P4 := put7_at (c := blk c.n) D2
    have B4 : Below w.heap.size w (put7 wb (w.heap.size + 1) 0 (blk c.n)) := ((Keep.below (fun i => i = w.heap.size + 1) hB).put7 (w.heap.size + 1) 0 (blk c.n) (fun h => rfl)).toBelow (Nat.le_refl _) (fun i hi => by omega)
    obtain ⟨q0, q1, q2, q3, q4, q5, q6⟩ := D2
    clear C2 F2 hbb
    go_wp2_with fail
    change bodyPost _ _ _ _ _ (put7 wb (w.heap.size + 1) 0 (blk c.n))
    generalize put7 wb (w.heap.size + 1) 0 (blk c.n) = w4 at *
    obtain ⟨q0, q1, q2, q3, q4, q5, q6⟩ := P4
    refine bodyPost_ret (v := (blk c.n).agg) ?_ rfl ⟨rfl, B4⟩
    simp [results, Tryz.results105, go_sem, q0, q1, q2, q3, q4, q5, q6]
set_option maxRecDepth 100000 in
set_option maxHeartbeats 2000000 in
theorem dCell {M : Mm} {L : List Wn} {last : Int} {N : Nat} {s : Rs} {t : Pt} {rk : Int → Nat} {K : Nat} (T : Tree L rk K) (ok : DOk L last) (w : World) (h : DkAt w M L last N s t) (r : Wn) (hr : r ∈ L) (hr0 : r.n = 0) (x y : Nat) (hx : x < r.W) (hy : y < r.H) (res : Cel) (hres : res = picP L K r x y) :
    Calls Tryz.prog 43 #[.pointer (some ⟨M.t 1, 0, none⟩), .int .i64 x, .int .i64 y] w fun e w' => e = .returned res.agg ∧ Below w.heap.size w w' := by
  have HD : Hid (DkAt w M L last N s t) := h
  have HT : Hid (Tree L rk K) := T
  have Hok : Hid (DOk L last) := ok
  have Hres : Hid (res = picP L K r x y) := hres
  have hw2 := (h.win r hr).gr.w2
  have hh2 := (h.win r hr).gr.h2
  clear h T ok hres
  go_enter Tryz.func43, Tryz.ntmps43
  go_wp2_with fail
  have hb0 : Below w.heap.size w (w.alloc (.cells noArr 38)) := (Below.refl _ _).alloc (Nat.le_refl _) _
  have C2 : CelAt (w.alloc (.cells noArr 38)) w.heap.size 0 noC := celBox_new w noC 38
  have F2 : ∀ o, (w.alloc (.cells noArr 38)).frozen? ⟨w.heap.size, o, none⟩ = false := frozen_of_block (heap_new w (.cells noArr 38))
  generalize w.alloc (.cells noArr 38) = wa at *
  have HDa : Hid (DkAt wa M L last N s t) := HD.out.below hb0
  clear HD
  have l2 : w.heap.size < wa.heap.size := C2.lt
  go_at_call 104
  refine (dSeen HT.out Hok.out _ HDa.out r hr hr0 x y hx hy).mono ?_
  rintro e wb ⟨v, a, b, hv, ha, hb, hown, rfl, hbb⟩
  have D2 := C2.below hbb l2
  have G2 := fun o => (hbb.marks l2 o).trans (F2 o)
  have hB : Below w.heap.size w wb := hb0.trans (hbb.mono hb0.size)
  have l3 : w.heap.size < wb.heap.size := D2.lt
  have HDb : Hid (DkAt wb M L last N s t) := HDa.out.below hbb
  have Hown : Hid (ownP L K r x y = (v, (a : Int), (b : Int))) := hown
  clear hown C2 F2 hbb HDa hb0
  have Hpic : Hid (res = if (v.G a b).p = 1 then halfP L K r v (v.G a b) (x + 1) y else if (v.G a b).p = 2 then halfP L K r v (v.G a b) (x - 1) y else v.G a b) := by
    show res = _
    rw [Hres.out]; unfold picP; rw [Hown.out]; rfl
  generalize v.G a b = vc at *
  have hbk : Below wb.heap.size wb (wb.alloc (.cells (celArr' vc) 38)) := (Below.refl _ _).alloc (Nat.le_refl _) _
  have E1 := celBox_new wb vc 38
  have E2 := D2.below hbk (by omega)
  have EF := fun o => (hbk.marks l3 o).trans (G2 o)
  have EB : Below w.heap.size w (wb.alloc (.cells (celArr' vc) 38)) := hB.trans (hbk.mono hB.size)
  have HDc : Hid (DkAt (wb.alloc (.cells (celArr' vc) 38)) M L last N s t) := HDb.out.below hbk
  clear hbk D2 G2 hB HDb
  have tail : ∀ (wd : World), CelAt wd w.heap.size 0 noC → (∀ o, wd.frozen? ⟨w.heap.size, o, none⟩ = false) → Below w.heap.size w wd → CelAt (put7 wd w.heap.size 0 res) w.heap.size 0 res ∧ Below w.heap.size w (put7 wd w.heap.size 0 res) := fun wd h1 _ h3 =>
    ⟨put7_at h1, ((Keep.below (fun i => i = w.heap.size) h3).put7 w.heap.size 0 res (fun h => rfl)).toBelow (Nat.le_refl _) (fun i hi => by omega)⟩
  have Htail := tail
  clear tail
  obtain ⟨vr, vp, vn⟩ := vc
  have Ht2 := Htail
  clear Htail
  have Htail : Hid (∀ (wd : World), CelAt wd w.heap.size 0 noC → (∀ o, wd.frozen? ⟨w.heap.size, o, none⟩ = false) → Below w.heap.size w wd → CelAt (put7 wd w.heap.size 0 res) w.heap.size 0 res ∧ Below w.heap.size w (put7 wd w.heap.size 0 res)) := Ht2
  clear Ht2
  by_cases h1 : vp = 1
  · subst h1
    go_wp2_with fail
    go_at_call 105
    refine (dHalf HT.out Hok.out _ HDc.out r hr hr0 v hv ⟨vr, 1, vn⟩ _ _ res (by have := Hpic.out; simpa using this)).mono ?_
    rintro e wd ⟨rfl, hbd⟩
    have l5 := E2.lt
    have D5 := E2.below hbd l5
    have G5 := fun o => (hbd.marks l5 o).trans (EF o)
    have B5 : Below w.heap.size w wd := EB.trans (hbd.mono EB.size)
    obtain ⟨q0, q1, q2, q3, q4, q5, q6⟩ := id D5
    clear E2 EF EB hbd HDc
    go_wp2_with fail
    change bodyPost _ _ _ _ _ (put7 wd w.heap.size 0 res)
    obtain ⟨P4, B4⟩ := Htail.out wd D5 G5 B5
    generalize put7 wd w.heap.size 0 res = w4 at *
    obtain ⟨q0, q1, q2, q3, q4, q5, q6⟩ := P4
    refine bodyPost_ret (v := res.agg) ?_ rfl ⟨rfl, B4⟩
    simp [results, Tryz.results43, go_sem, q0, q1, q2, q3, q4, q5, q6]
  · by_cases h2 : vp = 2
    · subst h2
      go_wp2_with fail
      go_at_call 105
      refine (dHalf HT.out Hok.out _ HDc.out r hr hr0 v hv ⟨vr, 2, vn⟩ _ _ res (by have := Hpic.out; simpa using this)).mono ?_
      rintro e wd ⟨rfl, hbd⟩
      have l5 := E2.lt
      have D5 := E2.below hbd l5
      have G5 := fun o => (hbd.marks l5 o).trans (EF o)
      have B5 : Below w.heap.size w wd := EB.trans (hbd.mono EB.size)
      obtain ⟨q0, q1, q2, q3, q4, q5, q6⟩ := id D5
      clear E2 EF EB hbd HDc
      go_wp2_with fail
      change bodyPost _ _ _ _ _ (put7 wd w.heap.size 0 res)
      obtain ⟨P4, B4⟩ := Htail.out wd D5 G5 B5
      generalize put7 wd w.heap.size 0 res = w4 at *
      obtain ⟨q0, q1, q2, q3, q4, q5, q6⟩ := P4
      refine bodyPost_ret (v := res.agg) ?_ rfl ⟨rfl, B4⟩
      simp [results, Tryz.results43, go_sem, q0, q1, q2, q3, q4, q5, q6]
    · have hh : res = ⟨vr, vp, vn⟩ := by have := Hpic.out; simpa [h1, h2] using this
      subst hh
      obtain ⟨p0, p1, p2, p3, p4, p5, p6⟩ := E1
      obtain ⟨q0, q1, q2, q3, q4, q5, q6⟩ := id E2
      have e1 : (vp == 1) = false := by simp [h1]
      have e2 : (vp == 2) = false := by simp [h2]
      generalize hwc : wb.alloc (.cells (celArr' ⟨vr, vp, vn⟩) 38) = wc at *
      go_wp2_with fail
      change bodyPost _ _ _ _ _ (put7 wc w.heap.size 0 ⟨vr, vp, vn⟩)
      obtain ⟨P4, B4⟩ := Htail.out wc E2 EF EB
      clear q0 q1 q2 q3 q4 q5 q6
      generalize put7 wc w.heap.size 0 ⟨vr, vp, vn⟩ = w4 at *
      obtain ⟨q0, q1, q2, q3, q4, q5, q6⟩ := P4
      refine bodyPost_ret (v := (Cel.mk vr vp vn).agg) ?_ rfl ⟨rfl, B4⟩
      simp [results, Tryz.results43, go_sem, q0, q1, q2, q3, q4, q5, q6]
theorem kNone {M : Mm} {L : List Wn} {last : Int} {N : Nat} {s : Rs} {t : Pt} (w : World) (h : DkAt w M L last N s t) :
    Calls Tryz.prog 41 #[.pointer (some ⟨M.t 0, 0, none⟩)] w fun e w' => e = .returned (.bool false) ∧ w' = w := by
  have c := h.c0
  clear h
  go_enter Tryz.func41, Tryz.ntmps41
  go_wp2
  go_ret
  exact ⟨rfl, rfl⟩
set_option maxRecDepth 100000 in
set_option maxHeartbeats 2000000 in
theorem kCell {M : Mm} {L : List Wn} {last : Int} {N : Nat} {s : Rs} {t : Pt} {rk : Int → Nat} {K : Nat} (T : Tree L rk K) (ok : DOk L last) (w : World) (h : DkAt w M L last N s t) (r : Wn) (hr : r ∈ L) (hr0 : r.n = 0) (x y : Nat) (hx : x < r.W) (hy : y < r.H) :
    Calls Tryz.prog 11 #[.pointer (some ⟨M.t 0, 0, none⟩), .int .i64 x, .int .i64 y] w fun e w' => e = .returned (.tuple #[(picP L K r x y).agg, .int .i64 0]) ∧ Below w.heap.size w w' := by
  have HD : Hid (DkAt w M L last N s t) := h
  have HT : Hid (Tree L rk K) := T
  have Hok : Hid (DOk L last) := ok
  have c0 := h.c0
  have c0' : ∀ o, (w.alloc o).cell? ⟨M.t 0, 0, none⟩ = some (.pointer (some ⟨M.t 1, 0, none⟩)) := fun o => by rw [((Below.refl w.heap.size w).alloc (Nat.le_refl _) o).cell (p := ⟨M.t 0, 0, none⟩) (h.lt (own_top M L 0 (by omega)))]; exact c0
  have hin : inG r.W r.H x y = true := inG_iff.2 (by omega)
  clear h T ok
  obtain ⟨pc, hpc⟩ : ∃ pc, picP L K r x y = pc := ⟨_, rfl⟩
  rw [hpc]
  have Hpc : Hid (pc = picP L K r x y) := hpc.symm
  clear hpc
  go_enter Tryz.func11, Tryz.ntmps11
  go_wp2_with (first | (go_at_call 41; refine (kNone _ (HD.out.below ((Below.refl _ _).alloc (Nat.le_refl _) _))).mono ?_; rintro e w' ⟨rfl, hw'⟩; replace hw' := hw'.symm; subst hw') | (go_at_call 42; refine (dHas _ (HD.out.below ((Below.refl _ _).alloc (Nat.le_refl _) _)) r hr hr0 _ _).mono ?_; rintro e w' ⟨rfl, hw'⟩; replace hw' := hw'.symm; subst hw'))
  have hb0 : Below w.heap.size w (w.alloc (.cells noArr 38)) := (Below.refl _ _).alloc (Nat.le_refl _) _
  have C2 : CelAt (w.alloc (.cells noArr 38)) w.heap.size 0 noC := celBox_new w noC 38
  have F2 : ∀ o, (w.alloc (.cells noArr 38)).frozen? ⟨w.heap.size, o, none⟩ = false := frozen_of_block (heap_new w (.cells noArr 38))
  generalize w.alloc (.cells noArr 38) = wa at *
  have HDa : Hid (DkAt wa M L last N s t) := HD.out.below hb0
  clear HD c0 c0'
  have l2 : w.heap.size < wa.heap.size := C2.lt
  go_at_call 43
  refine (dCell HT.out Hok.out _ HDa.out r hr hr0 x y hx hy pc Hpc.out).mono ?_
  rintro e wd ⟨rfl, hbd⟩
  have D5 := C2.below hbd l2
  have G5 := fun o => (hbd.marks l2 o).trans (F2 o)
  have B5 : Below w.heap.size w wd := hb0.trans (hbd.mono hb0.size)
  have P4 := put7_at (c := pc) D5
  have B4 : Below w.heap.size w (put7 wd w.heap.size 0 pc) := ((Keep.below (fun i => i = w.heap.size) B5).put7 w.heap.size 0 pc (fun h => rfl)).toBelow (Nat.le_refl _) (fun i hi => by omega)
  obtain ⟨q0, q1, q2, q3, q4, q5, q6⟩ := D5
  clear C2 F2 hbd hb0 HDa
  go_wp2_with fail
  change bodyPost _ _ _ _ _ (put7 wd w.heap.size 0 pc)
  generalize put7 wd w.heap.size 0 pc = w4 at *
  clear q0 q1 q2 q3 q4 q5 q6
  obtain ⟨q0, q1, q2, q3, q4, q5, q6⟩ := P4
  refine bodyPost_ret (v := .tuple #[pc.agg, .int .i64 0]) ?_ rfl ⟨rfl, B4⟩
  simp [results, Tryz.results11, go_sem, q0, q1, q2, q3, q4, q5, q6]
end Go.Proofs.YtjlfibhbfdckpaaGreatDoor

/- A screen's sizes, beginnings, states: plain mathematics. -/
namespace Go.Proofs.YtjlfibhbfdckpaaGreatDoor
open Wd (wd)
/-- May a size be? -/
def sizeB (x y : Int) : Bool := Wd.inB x 1 40 && Wd.inB y 1 20
theorem sizeB_iff {x y : Int} : sizeB x y = true ↔ 1 ≤ x ∧ x ≤ 40 ∧ 1 ≤ y ∧ y ≤ 20 := by simp [sizeB, Wd.inB, and_assoc]
/-- A new screen. -/
def newR (W H : Nat) : Rs := ⟨W, H, 0, 0, false, Pn.plain, 0, (H : Int) - 1, ⟨#[]⟩, 0, fun _ _ => blk Pn.plain⟩
theorem newR_ok {W H : Nat} (w1 : 1 ≤ W) (w2 : W ≤ 40) (h1 : 1 ≤ H) (h2 : H ≤ 20) : (newR W H).Ok :=
  ⟨w1, w2, h1, h2, Int.le_refl 0, by show (0 : Int) < W; omega, Int.le_refl 0, by show (0 : Int) < H; omega, Int.le_refl 0, by show (0 : Int) ≤ (H : Int) - 1; omega, by show (H : Int) - 1 < H; omega, (fun q => by cases q), wf_plain W H⟩
/-- The state, as a value. -/
abbrev stAgg (W H : Nat) (x y : Int) (pend : Bool) (n : Pn) (top bot : Int) (ground : Bool) : Value := .agg #[.int .i64 W, .int .i64 H, .int .i64 x, .int .i64 y, .bool pend, .int .i64 n.f, .int .i64 n.b, .bool n.bo, .bool n.un, .bool n.re, .int .i64 top, .int .i64 bot, .bool ground]
def groundB (s : Rs) : Bool := s.B.toList.isEmpty
/-- The empty cell. -/
def noCel : Cel := ⟨0, 0, Pn.plain⟩
/-- Another size. -/
def resizeR (s : Rs) (W H : Nat) : Rs := goesR { s with W := W, H := H, top := 0, bot := (H : Int) - 1, G := sizedG s.W s.H W s.G } s.x s.y
theorem resizeR_ok {s : Rs} (h : s.Ok) {W H : Nat} (w1 : 1 ≤ W) (w2 : W ≤ 40) (h1 : 1 ≤ H) (h2 : H ≤ 20) : (resizeR s W H).Ok := by
  have a := clampI_in s.x W w1
  have b := clampI_in s.y H h1
  exact ⟨w1, w2, h1, h2, a.1, a.2, b.1, b.2, Int.le_refl 0, by show (0 : Int) ≤ (H : Int) - 1; omega, by show (H : Int) - 1 < H; omega, (fun q => by cases q), h.wf.sized⟩
end Go.Proofs.YtjlfibhbfdckpaaGreatDoor

/- The program's screen: New; which sizes may be. -/
namespace Go.Proofs.YtjlfibhbfdckpaaGreatDoor
open Go.RowKit
attribute [local go_sem ↓] Go.wp_at_zero Go.wp_at_succ
theorem pMayBe (x y : Int) (w : World) :
    Calls Tryz.prog 46 #[.int .i64 x, .int .i64 y] w fun e w' => e = .returned (.bool (sizeB x y)) ∧ w' = w := by
  cases h1 : Wd.inB x 1 40 <;> cases h2 : Wd.inB y 1 20
  all_goals
    go_enter Tryz.func46, Tryz.ntmps46
    go_wp2_with (first | (go_at_call 107; refine (pWithin _ _ _ _).mono ?_; rintro e w' ⟨rfl, hw'⟩; replace hw' := hw'.symm; subst hw'))
    go_ret
    exact ⟨by simp [sizeB, h1, h2], rfl⟩
def newT : Pt := ⟨0, fun _ => 0, 0, fun _ => 0, 0, false⟩
theorem sNew (W H : Nat) (w : World) (w1 : 1 ≤ W) (w2 : W ≤ 40) (h1 : 1 ≤ H) (h2 : H ≤ 20) :
    Calls Tryz.prog 106 #[.int .i64 W, .int .i64 H] w fun e w' => ∃ bs bg g, e = .returned (.pointer (some ⟨bs, 0, none⟩)) ∧ PrAt w' bs bg g (H * W) (newR W H) newT ∧ Below w.heap.size w w' ∧ w.heap.size ≤ bs ∧ w.heap.size ≤ bg ∧ w.heap.size ≤ g := by
  go_enter Tryz.func106, Tryz.ntmps106
  go_wp2_with fail
  go_at_call 108
  refine (pNew W H _ w1 w2 h1 h2).mono ?_
  rintro e wa ⟨bg, g, rfl, G1, b1, lb, lg⟩
  have HG1 : Hid (GrAt wa bg g W H (H * W) (fun _ _ => blk Pn.plain)) := G1
  have HB1 : Hid (Below w.heap.size w wa) := b1
  clear G1 b1
  go_wp2_with fail
  go_ret
  have hl := HG1.out.lt
  have hgl := HG1.out.glt
  have hbl : Below wa.heap.size wa (wa.alloc (.cells (prArr bg (newR W H) newT) 153)) := (Below.refl _ _).alloc (Nat.le_refl _) _
  exact ⟨wa.heap.size, bg, g, rfl, ⟨heap_new wa _, HG1.out.below hbl, by omega, by omega⟩, HB1.out.trans (hbl.mono HB1.out.size), HB1.out.size, lb, lg⟩
end Go.Proofs.YtjlfibhbfdckpaaGreatDoor

/- The program's desk: New, NewDesk. -/
namespace Go.Proofs.YtjlfibhbfdckpaaGreatDoor
open Go.RowKit
attribute [local go_sem ↓] Go.wp_at_zero Go.wp_at_succ
/-- The root alone. -/
def rootW (W H : Nat) : Wn := ⟨0, -1, 0, 0, true, W, H, fun _ _ => blk Pn.plain⟩
theorem kids_root (W H : Nat) : kids [rootW W H] 0 = [] := by simp [kids, rootW]
theorem ok_root (W H : Nat) : DOk [rootW W H] 0 :=
  ⟨⟨fun _ => 0, 0, ⟨rootW W H, [], rfl, rfl, rfl, by simp⟩, by simp, by simp [rootW], by simp⟩, by simp [rootW], by simp, by simp [rootW]⟩
/-- Where the desk lies that has the root alone. -/
def mRoot (p d sb sg sc b c g : Nat) : Mm := ⟨fun k => if k = 0 then p else if k = 1 then d else if k = 2 then sb else if k = 3 then sg else sc, fun _ => b, fun _ => c, fun _ => g, fun _ => .slice none 0 0⟩
theorem root_blk (W H a d sb sg sc b c g : Nat) (p : Pl) (i : Nat) (hp : p.ok [rootW W H]) (e : (mRoot a d sb sg sc b c g).blk p = some i) : (p = .top 0 ∧ i = a) ∨ (p = .top 1 ∧ i = d) ∨ (p = .top 2 ∧ i = sb) ∨ (p = .top 3 ∧ i = sg) ∨ (p = .top 4 ∧ i = sc) ∨ (p = .win 0 0 ∧ i = b) ∨ (p = .win 0 1 ∧ i = c) ∨ (p = .win 0 2 ∧ i = g) := by
  cases p with
  | top k =>
    have hk : k < 5 := hp
    match k, hk with
    | 0, _ => simp [Mm.blk, mRoot] at e; simp [e]
    | 1, _ => simp [Mm.blk, mRoot] at e; simp [e]
    | 2, _ => simp [Mm.blk, mRoot] at e; simp [e]
    | 3, _ => simp [Mm.blk, mRoot] at e; simp [e]
    | 4, _ => simp [Mm.blk, mRoot] at e; simp [e]
  | win n k =>
    obtain ⟨hk, v, hv, hn⟩ := hp
    obtain rfl : v = rootW W H := by simpa using hv
    obtain rfl : 0 = n := hn
    match k, hk with
    | 0, _ => simp [Mm.blk, mRoot] at e; simp [e]
    | 1, _ => simp [Mm.blk, mRoot] at e; simp [e]
    | 2, _ => simp [Mm.blk, mRoot] at e; simp [e]
    | 3, _ => simp [Mm.blk, mRoot, Value.ownBlock] at e
set_option maxHeartbeats 1000000 in
theorem kNew (W H : Nat) (w : World) (w1 : 1 ≤ W) (w2 : W ≤ 40) (h1 : 1 ≤ H) (h2 : H ≤ 20) (_hw : 2 ≤ w.heap.size) :
    Calls Tryz.prog 15 #[.int .i64 W, .int .i64 H] w fun e w' => ∃ M, e = .returned (.tuple #[.pointer (some ⟨M.t 0, 0, none⟩), .int .i64 0]) ∧ DkAt w' M [rootW W H] 0 (H * W) (newR W H) newT ∧ Below w.heap.size w w' ∧ ∀ i, M.own [rootW W H] i → w.heap.size ≤ i := by
  have hs : sizeB W H = true := sizeB_iff.2 (by omega)
  have hnew : Hid (Calls Tryz.prog 47 #[.int .i64 W, .int .i64 H] w fun e w' => ∃ d sb sg sc b c g, e = .returned (.pointer (some ⟨d, 0, none⟩)) ∧ w'.heap[d]? = some (.cells #[.pointer (some ⟨b, 0, none⟩), .int .i64 0, .pointer (some ⟨sb, 0, none⟩)] 133) ∧ w'.heap[b]? = some (.cells (winArr (rootW W H) none c (.slice none 0 0)) 131) ∧ GrAt w' c g W H (H * W) (fun _ _ => blk Pn.plain) ∧ PrAt w' sb sg sc (H * W) (newR W H) newT ∧ Below w.heap.size w w' ∧ w.heap.size ≤ c ∧ w.heap.size ≤ g ∧ w.heap.size ≤ b ∧ c < b ∧ g < b ∧ b < sb ∧ b < sg ∧ b < sc ∧ sb < d ∧ sg < d ∧ sc < d) := by
    show Calls _ _ _ _ _
    clear hs
    go_enter Tryz.func47, Tryz.ntmps47
    go_wp2_with fail
    go_at_call 108
    refine (pNew W H _ w1 w2 h1 h2).mono ?_
    rintro e wa ⟨c, g, rfl, G1, b1, lc, lg⟩
    have HG1 : Hid (GrAt wa c g W H (H * W) (fun _ _ => blk Pn.plain)) := G1
    have HB1 : Hid (Below w.heap.size w wa) := b1
    have gl := G1.lt
    have ggl := G1.glt
    clear G1 b1
    go_wp2_with fail
    have hbl : Below wa.heap.size wa (wa.alloc (.cells (winArr (rootW W H) none c (.slice none 0 0)) 131)) := (Below.refl _ _).alloc (Nat.le_refl _) _
    have HW : Hid ((wa.alloc (.cells (winArr (rootW W H) none c (.slice none 0 0)) 131)).heap[wa.heap.size]? = some (.cells (winArr (rootW W H) none c (.slice none 0 0)) 131)) := heap_new wa _
    have HG2 : Hid (GrAt (wa.alloc (.cells (winArr (rootW W H) none c (.slice none 0 0)) 131)) c g W H (H * W) (fun _ _ => blk Pn.plain)) := HG1.out.below hbl
    have HB2 : Hid (Below w.heap.size w (wa.alloc (.cells (winArr (rootW W H) none c (.slice none 0 0)) 131))) := HB1.out.trans (hbl.mono HB1.out.size)
    have s2 : (wa.alloc (.cells (winArr (rootW W H) none c (.slice none 0 0)) 131)).heap.size = wa.heap.size + 1 := by simp
    change Calls _ _ _ (wa.alloc (.cells (winArr (rootW W H) none c (.slice none 0 0)) 131)) _
    generalize wa.alloc (.cells (winArr (rootW W H) none c (.slice none 0 0)) 131) = wb at *
    clear HG1 hbl
    go_at_call 106
    refine (sNew W H _ w1 w2 h1 h2).mono ?_
    rintro e wc ⟨sb, sg, sc, rfl, P1, b1, l1, l2, l3⟩
    have HP : Hid (PrAt wc sb sg sc (H * W) (newR W H) newT) := P1
    have p1 := P1.lt
    have p2 := P1.gr.lt
    have p3 := P1.gr.glt
    have HB3 : Hid (Below wb.heap.size wb wc) := b1
    clear P1 b1
    go_wp2_with fail
    go_ret
    have hz := HB1.out.size
    have hbk : Below wc.heap.size wc (wc.alloc (.cells #[.pointer (some ⟨wa.heap.size, 0, none⟩), .int .i64 0, .pointer (some ⟨sb, 0, none⟩)] 133)) := (Below.refl _ _).alloc (Nat.le_refl _) _
    have hbc : Below wb.heap.size wb (wc.alloc (.cells #[.pointer (some ⟨wa.heap.size, 0, none⟩), .int .i64 0, .pointer (some ⟨sb, 0, none⟩)] 133)) := HB3.out.trans (hbk.mono HB3.out.size)
    refine ⟨wc.heap.size, sb, sg, sc, wa.heap.size, c, g, rfl, heap_new wc _, by rw [hbc.block _ (by omega)]; exact HW.out, HG2.out.below hbc, HP.out.below hbk, HB2.out.trans (hbc.mono HB2.out.size), lc, lg, by omega, gl, ggl, by omega, by omega, by omega, p1, p2, p3⟩
  go_enter Tryz.func15, Tryz.ntmps15
  go_wp2_with (first | (go_at_call 46; refine (pMayBe _ _ _).mono ?_; rintro e w' ⟨rfl, hw'⟩; replace hw' := hw'.symm; subst hw'))
  go_at_call 47
  refine hnew.out.mono ?_
  rintro e wa ⟨d, sb, sg, sc, b, c, g, rfl, q1, q2, q3, q4, q5, l1, l2, l3, l4, l5, l6, l7, l8, l9, l10, l11⟩
  have H1 : Hid (wa.heap[d]? = some (.cells #[.pointer (some ⟨b, 0, none⟩), .int .i64 0, .pointer (some ⟨sb, 0, none⟩)] 133)) := q1
  have H2 : Hid (wa.heap[b]? = some (.cells (winArr (rootW W H) none c (.slice none 0 0)) 131)) := q2
  have H3 : Hid (GrAt wa c g W H (H * W) (fun _ _ => blk Pn.plain)) := q3
  have H4 : Hid (PrAt wa sb sg sc (H * W) (newR W H) newT) := q4
  have H5 : Hid (Below w.heap.size w wa) := q5
  have dl : d < wa.heap.size := (Array.getElem?_eq_some_iff.1 q1).1
  clear q1 q2 q3 q4 q5
  go_wp2_with fail
  go_ret2
  have hbk : Below wa.heap.size wa (wa.alloc (.cells #[.pointer (some ⟨d, 0, none⟩)] 75)) := (Below.refl _ _).alloc (Nat.le_refl _) _
  have hz := H5.out.size
  have hgn : c ≠ g := H3.out.ne
  have hsn : sg ≠ sc := H4.out.gr.ne
  have hs1 := H4.out.ne1
  have hs2 := H4.out.ne2
  refine ⟨mRoot wa.heap.size d sb sg sc b c g, rfl, ⟨heap_new wa _, ?_, H4.out.below hbk, ?_, ?_, ?_⟩, H5.out.trans (hbk.mono hz), ?_⟩
  · exact (hbk.block _ dl).trans H1.out
  · intro v hv
    obtain rfl : v = rootW W H := by simpa using hv
    refine ⟨?_, H3.out.below hbk, wf_plain _ _, ?_⟩
    · exact (hbk.block _ (by show b < _; omega)).trans H2.out
    · show World.ownsRow _ _ _ _ _ _ (Mm.ptrs _ (kids [rootW W H] 0))
      rw [kids_root]
      exact World.ownsRow_nil _ _ _ _
  · have hb : ∀ (p : Pl) (i : Nat), p.ok [rootW W H] → (mRoot wa.heap.size d sb sg sc b c g).blk p = some i → (p = .top 0 ∧ i = wa.heap.size) ∨ (p = .top 1 ∧ i = d) ∨ (p = .top 2 ∧ i = sb) ∨ (p = .top 3 ∧ i = sg) ∨ (p = .top 4 ∧ i = sc) ∨ (p = .win 0 0 ∧ i = b) ∨ (p = .win 0 1 ∧ i = c) ∨ (p = .win 0 2 ∧ i = g) := root_blk _ _ _ _ _ _ _ _ _ _
    intro p q i hp hq e1 e2
    rcases hb p i hp e1 with ⟨rfl, r1⟩ | ⟨rfl, r1⟩ | ⟨rfl, r1⟩ | ⟨rfl, r1⟩ | ⟨rfl, r1⟩ | ⟨rfl, r1⟩ | ⟨rfl, r1⟩ | ⟨rfl, r1⟩ <;>
      rcases hb q i hq e2 with ⟨rfl, r2⟩ | ⟨rfl, r2⟩ | ⟨rfl, r2⟩ | ⟨rfl, r2⟩ | ⟨rfl, r2⟩ | ⟨rfl, r2⟩ | ⟨rfl, r2⟩ | ⟨rfl, r2⟩ <;> first | rfl | (exfalso; omega)
  · rintro i ⟨p, hp, e⟩
    rcases root_blk _ _ _ _ _ _ _ _ _ _ p i hp e with ⟨_, r1⟩ | ⟨_, r1⟩ | ⟨_, r1⟩ | ⟨_, r1⟩ | ⟨_, r1⟩ | ⟨_, r1⟩ | ⟨_, r1⟩ | ⟨_, r1⟩ <;> omega
  · rintro i ⟨p, hp, e⟩
    rcases root_blk _ _ _ _ _ _ _ _ _ _ p i hp e with ⟨_, r1⟩ | ⟨_, r1⟩ | ⟨_, r1⟩ | ⟨_, r1⟩ | ⟨_, r1⟩ | ⟨_, r1⟩ | ⟨_, r1⟩ | ⟨_, r1⟩ <;> omega
end Go.Proofs.YtjlfibhbfdckpaaGreatDoor

/- The program's desk: enter. -/
namespace Go.Proofs.YtjlfibhbfdckpaaGreatDoor
open Go.RowKit
attribute [local go_sem ↓] Go.wp_at_zero Go.wp_at_succ
theorem ptrInfo : (Tryz.prog.info? 111).map (fun i => (i.zero, i.size, i.bytes)) = some (some (.pointer none), 1, 8) := by kernel_rfl
theorem list_append_ptr {ops : Array Oper} {rest : List Oper} {o : Oper} {a : Act} {Q : Exit → Act → World → Prop} (w : World) (hgd : o.guard = none) (s x : Operand)
    (ho : o.op = .call { callee := .builtin .append, args := #[s, x], argTypes := #[129, 129] }) (v : Value) (ks : List Value) (u : Value) (k : Nat) (hk : ks.length = k) (hs : a.eval s = v)
    (hown : w.ownsRow 2 111 1 v k ks) (b : Nat) (hx : a.eval x = .slice (some ⟨b, 0, none⟩) 1 1) (hb : w.heap[b]? = some (.cells #[u] 111)) (hu : u.oneCell' = true) (hL : k ≤ 1000) (hbase : 2 ≤ w.heap.size)
    (h : ∀ g cap w', w'.ownsRow 2 111 1 (.slice (some ⟨g, 0, none⟩) (k + 1) cap) (k + 1) (ks ++ [u]) → w.grownBy w' v.ownBlock → (v.ownBlock = some g ∨ g = w.heap.size) → g < w'.heap.size → wpList Tryz.prog ops Q rest (a.put o.dst (.slice (some ⟨g, 0, none⟩) (k + 1) cap)) w') :
    wpList Tryz.prog ops Q (o :: rest) a w := by
  obtain ⟨ti, i1, i2, i3, i4⟩ := info_parts ptrInfo
  exact wpList_append_lies w hgd s x 129 ho 2 111 ti _ 1 8 Tryz.underlying129 i1 i2 i3 i4 rfl (by decide) v k ks hs hown ⟨b, 0, none⟩ 1 1 [u] hx rfl (World.news_of_block hb) (by simpa using hu) (by decide) (by unfold maxLen; omega) (by omega) hbase w.heap.size rfl h
theorem set_block {w : World} {b o : Nat} {C : Array Value} {t : TypeId} (h : w.heap[b]? = some (.cells C t)) (v : Value) : (w.setCell ⟨b, o, none⟩ v).heap[b]? = some (.cells (C.setIfInBounds o v) t) := heap_set_same h o v
set_option maxHeartbeats 1000000 in
theorem wEnter (u v : Wn) (bu bv cu cv : Nat) (pu pv : Option Addr) (su sv : Value) (ks : List Value) (w : World) (hU : w.heap[bu]? = some (.cells (winArr u pu cu su) 131)) (hV : w.heap[bv]? = some (.cells (winArr v pv cv sv) 131)) (hrow : w.ownsRow 2 111 1 sv ks.length ks) (hne : bu ≠ bv) (hsu : sv.ownBlock ≠ some bu) (hsv : sv.ownBlock ≠ some bv) (hk : ks.length ≤ 100) (_h2 : 2 ≤ w.heap.size) :
    Calls Tryz.prog 150 #[.pointer (some ⟨bu, 0, none⟩), .pointer (some ⟨bv, 0, none⟩)] w fun e w' => ∃ g cap, e = .returned (.tuple #[]) ∧ w'.heap[bu]? = some (.cells (winArr u (some ⟨bv, 0, none⟩) cu su) 131) ∧ w'.heap[bv]? = some (.cells (winArr v pv cv (.slice (some ⟨g, 0, none⟩) (ks.length + 1) cap)) 131) ∧
      w'.ownsRow 2 111 1 (.slice (some ⟨g, 0, none⟩) (ks.length + 1) cap) (ks.length + 1) (ks ++ [.pointer (some ⟨bu, 0, none⟩)]) ∧ Keep (fun i => i = bu ∨ i = bv ∨ sv.ownBlock = some i) w w' ∧ (sv.ownBlock = some g ∨ w.heap.size ≤ g) := by
  have lu : bu < w.heap.size := (Array.getElem?_eq_some_iff.1 hU).1
  have lv : bv < w.heap.size := (Array.getElem?_eq_some_iff.1 hV).1
  have c1 : w.cell? ⟨bu, 1, none⟩ = some (.pointer pu) := cell_of_block hU 1
  have z1 := frozen_of_block hU
  have HU : Hid (w.heap[bu]? = some (.cells (winArr u pu cu su) 131)) := hU
  have HV : Hid (w.heap[bv]? = some (.cells (winArr v pv cv sv) 131)) := hV
  have Hrow : Hid (w.ownsRow 2 111 1 sv ks.length ks) := hrow
  clear hU hV hrow
  have c6 : (w.setCell ⟨bu, 1, none⟩ (.pointer (some ⟨bv, 0, none⟩))).cell? ⟨bv, 6, none⟩ = some sv := by
    rw [World.cell?_setCell_other _ _ _ _ (by intro e; injection e with e1; exact hne e1)]; exact cell_of_block HV.out 6
  have Hr1 : Hid ((w.setCell ⟨bu, 1, none⟩ (.pointer (some ⟨bv, 0, none⟩))).ownsRow 2 111 1 sv ks.length ks) := ownsRow_same Hrow.out (fun i hi => Below.heap_setCell _ _ _ _ (fun e => hsu (by rw [hi, e])))
  have K1 : Keep (fun i => i = bu ∨ i = bv ∨ sv.ownBlock = some i) w (w.setCell ⟨bu, 1, none⟩ (.pointer (some ⟨bv, 0, none⟩))) := (Keep.refl _ w).setCell _ _ (fun _ => Or.inl rfl)
  have U1 : (w.setCell ⟨bu, 1, none⟩ (.pointer (some ⟨bv, 0, none⟩))).heap[bu]? = some (.cells (winArr u (some ⟨bv, 0, none⟩) cu su) 131) := set_block HU.out _
  have V1 : (w.setCell ⟨bu, 1, none⟩ (.pointer (some ⟨bv, 0, none⟩))).heap[bv]? = some (.cells (winArr v pv cv sv) 131) := (Below.heap_setCell _ _ _ _ (fun e => hne e.symm)).trans HV.out
  have s1 : (w.setCell ⟨bu, 1, none⟩ (.pointer (some ⟨bv, 0, none⟩))).heap.size = w.heap.size := set_size _ _ _
  go_enter Tryz.func150, Tryz.ntmps150
  go_wp2_with ((at_builtin; refine list_append_ptr _ (by rfl) (.tmp 12) (.tmp 14) (by rfl) sv ks (.pointer (some ⟨bu, 0, none⟩)) ks.length rfl (by rfl) (ownsRow_same Hr1.out (fun i hi => Below.heap_alloc _ _ _ (ownsRow_lt Hr1.out hi).1)) _ (by rfl) (heap_new' _ _ _ (by simp)) rfl (by omega) (by first | (simp; omega) | simp) ?_; intro g7 cap7 w7 hr7 hg7 ho7 hl7; have V7 : w7.heap[bv]? = some (.cells (winArr v pv cv sv) 131) := (hg7.block _ (by simp; omega) (fun e => hsv e.symm)).trans ((Below.heap_alloc _ _ _ (by omega)).trans V1); have U7 : w7.heap[bu]? = some (.cells (winArr u (some ⟨bv, 0, none⟩) cu su) 131) := (hg7.block _ (by simp; omega) (fun e => hsu e.symm)).trans ((Below.heap_alloc _ _ _ (by omega)).trans U1); have c7 : w7.cell? ⟨bv, 6, none⟩ = some sv := cell_of_block V7 6; have f7 : w7.frozen? ⟨bv, 6, none⟩ = false := frozen_of_block V7 6))
  go_end0
  have hne7 : g7 ≠ bv := by
    rcases ho7 with h | h
    · intro e; rw [e] at h; exact hsv h
    · simp at h; omega
  refine ⟨g7, cap7, rfl, ?_, set_block V7 _, ?_, ?_, ?_⟩
  · exact (Below.heap_setCell _ _ _ _ hne).trans U7
  · exact ownsRow_same hr7 (fun i hi => Below.heap_setCell _ _ _ _ (fun e => hne7 (by simp [Value.ownBlock] at hi; have e' : i = bv := e; omega)))
  · refine Keep.setCell ?_ _ _ (fun _ => Or.inr (Or.inl rfl))
    refine K1.trans ((Keep.refl (fun i => i = bu ∨ i = bv ∨ sv.ownBlock = some i) _).alloc _ |>.trans ⟨hg7.os, hg7.tape, hg7.output, hg7.size, fun k hk hF => hg7.block k hk (fun e => hF (Or.inr (Or.inr e.symm)))⟩ (fun _ _ h => h)) (fun _ _ h => h)
  · rcases ho7 with h | h
    · exact Or.inl h
    · simp at h; exact Or.inr (by omega)
end Go.Proofs.YtjlfibhbfdckpaaGreatDoor

/- Desks: a window is made: plain; and where blocks lie that are new. -/
namespace Go.Proofs.YtjlfibhbfdckpaaGreatDoor
open Go.RowKit
def updI' {α : Type} (f : Int → α) (n : Int) (a : α) : Int → α := fun m => if m = n then a else f m
theorem updI'_same {α : Type} (f : Int → α) (n : Int) (a : α) : updI' f n a n = a := if_pos rfl
theorem updI'_other {α : Type} (f : Int → α) {n m : Int} (a : α) (h : m ≠ n) : updI' f n a m = f m := if_neg h
theorem kids_append (L : List Wn) (v : Wn) (n : Int) : kids (L ++ [v]) n = kids L n ++ (if v.par = n then [v] else []) := by
  unfold kids
  rw [List.filter_append]
  congr 1
  by_cases h : v.par = n
  · simp [h]
  · simp [h]
theorem ok_create {L : List Wn} {last : Int} (ok : DOk L last) {v : Wn} (hv : v ∈ L) (hl : L.length < 16) (x y : Int) (W H : Nat) (G : Nat → Nat → Cel) (hx : -1000 ≤ x ∧ x ≤ 1000 ∧ -1000 ≤ y ∧ y ≤ 1000) (sh : Bool) : DOk (L ++ [⟨last + 1, v.n, x, y, sh, W, H, G⟩]) (last + 1) := by
  obtain ⟨rk, K, T⟩ := ok.tree
  have hvn := T.pos hv
  have hvl := ok.le v hv
  refine ⟨⟨updI' rk (last + 1) (rk v.n + 1), max K (rk v.n + 1), ?_, ?_, ?_, ?_⟩, ?_, ?_, ?_⟩
  · obtain ⟨r, t, rfl, h0, h1, h2⟩ := T.head
    refine ⟨r, t ++ [⟨last + 1, v.n, x, y, sh, W, H, G⟩], rfl, h0, h1, fun u hu => ?_⟩
    rcases List.mem_append.1 hu with hu | hu
    · exact h2 u hu
    · obtain rfl : u = ⟨last + 1, v.n, x, y, sh, W, H, G⟩ := by simpa using hu
      exact ⟨by show 1 ≤ last + 1; omega, hvn⟩
  · rw [List.map_append, List.nodup_append]
    refine ⟨T.nd, by simp, ?_⟩
    intro a ha b hb e
    obtain ⟨u, hu, rfl⟩ := List.mem_map.1 ha
    have : b = last + 1 := by simpa using hb
    have := ok.le u hu
    omega
  · intro u hu hp
    rcases List.mem_append.1 hu with hu | hu
    · obtain ⟨⟨q, hq, hqn⟩, hr⟩ := T.up u hu hp
      have h1 := ok.le u hu
      have h2 := ok.le q hq
      refine ⟨⟨q, List.mem_append.2 (.inl hq), hqn⟩, ?_⟩
      rw [updI'_other rk _ (by omega), updI'_other rk _ (by omega)]
      exact hr
    · obtain rfl : u = ⟨last + 1, v.n, x, y, sh, W, H, G⟩ := by simpa using hu
      refine ⟨⟨v, List.mem_append.2 (.inl hv), rfl⟩, ?_⟩
      show updI' rk (last + 1) (rk v.n + 1) v.n < updI' rk (last + 1) (rk v.n + 1) (last + 1)
      rw [updI'_same, updI'_other rk _ (by omega)]
      omega
  · intro u hu
    rcases List.mem_append.1 hu with hu | hu
    · have h1 := ok.le u hu
      rw [updI'_other rk _ (by omega)]
      have := T.le u hu
      omega
    · obtain rfl : u = ⟨last + 1, v.n, x, y, sh, W, H, G⟩ := by simpa using hu
      show updI' rk (last + 1) (rk v.n + 1) (last + 1) ≤ _
      rw [updI'_same]
      omega
  · intro u hu
    rcases List.mem_append.1 hu with hu | hu
    · have := ok.le u hu; omega
    · obtain rfl : u = ⟨last + 1, v.n, x, y, sh, W, H, G⟩ := by simpa using hu
      exact Int.le_refl _
  · rw [List.length_append]; simp; omega
  · intro u hu
    rcases List.mem_append.1 hu with hu | hu
    · exact ok.pl u hu
    · obtain rfl : u = ⟨last + 1, v.n, x, y, sh, W, H, G⟩ := by simpa using hu
      exact hx
/-- Blocks that are new are different from those that were there, and from each other. -/
theorem inj_of {M M' : Mm} {L L' : List Wn} (h : M.inj L) (B : Nat) (hB : ∀ i, M.own L i → i < B) (fr : Pl → Prop)
    (hold : ∀ p : Pl, p.ok L' → ¬ fr p → p.ok L ∧ M'.blk p = M.blk p) (hfr : ∀ (p : Pl) (i : Nat), p.ok L' → fr p → M'.blk p = some i → B ≤ i)
    (hff : ∀ (p q : Pl) (i : Nat), p.ok L' → q.ok L' → fr p → fr q → M'.blk p = some i → M'.blk q = some i → p = q) : M'.inj L' := by
  intro p q i hp hq e1 e2
  by_cases fp : fr p
  · by_cases fq : fr q
    · exact hff p q i hp hq fp fq e1 e2
    · obtain ⟨oq, bq⟩ := hold q hq fq
      have h1 := hfr p i hp fp e1
      have h2 := hB i ⟨q, oq, by rw [← bq]; exact e2⟩
      omega
  · obtain ⟨op, bp⟩ := hold p hp fp
    by_cases fq : fr q
    · have h1 := hfr q i hq fq e2
      have h2 := hB i ⟨p, op, by rw [← bp]; exact e1⟩
      omega
    · obtain ⟨oq, bq⟩ := hold q hq fq
      exact h p q i op oq (by rw [← bp]; exact e1) (by rw [← bq]; exact e2)
theorem own_of {M M' : Mm} {L L' : List Wn} (B : Nat) (fr : Pl → Prop) (hold : ∀ p : Pl, p.ok L' → ¬ fr p → p.ok L ∧ M'.blk p = M.blk p) (hfr : ∀ (p : Pl) (i : Nat), p.ok L' → fr p → M'.blk p = some i → B ≤ i) {i : Nat} (hi : M'.own L' i) : M.own L i ∨ B ≤ i := by
  obtain ⟨p, hp, e⟩ := hi
  by_cases fp : fr p
  · exact .inr (hfr p i hp fp e)
  · obtain ⟨op, bp⟩ := hold p hp fp
    exact .inl ⟨p, op, by rw [← bp]; exact e⟩
end Go.Proofs.YtjlfibhbfdckpaaGreatDoor
