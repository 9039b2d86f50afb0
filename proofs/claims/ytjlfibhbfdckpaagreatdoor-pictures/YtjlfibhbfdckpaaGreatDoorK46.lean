/- Texts of the proof, one behind the other: PcI, PcJ. -/
import Derived.Test.YtjlfibhbfdckpaaGreatDoorK45
import Derived.Deep.RegionHeld3
/- The statement of pictures: plays. -/
namespace Go.Proofs.YtjlfibhbfdckpaaGreatDoor
open Go.RowKit
attribute [local go_sem ↓] Go.wp_at_zero Go.wp_at_succ
def noCa : Ca := ⟨0, 0, 0, 0, 0, 0, 0, ByteArray.empty, Pn.plain⟩
/-- What the walk is told of the script. -/
def CasIn (w : World) (a : Option Addr) (n : Nat) (cs : List Ca) : Prop :=
  ∀ k, k < n → ∃ b off, a = some ⟨b, off, none⟩ ∧ b < w.heap.size ∧ w.cell? ⟨b, off + k * 13, none⟩ = some (.int .i64 (cs.getD k noCa).kd) ∧ w.cell? ⟨b, off + k * 13 + 1, none⟩ = some (.int .i64 (cs.getD k noCa).on) ∧ w.cell? ⟨b, off + k * 13 + 2, none⟩ = some (.int .i64 (cs.getD k noCa).a) ∧ w.cell? ⟨b, off + k * 13 + 3, none⟩ = some (.int .i64 (cs.getD k noCa).b) ∧ w.cell? ⟨b, off + k * 13 + 4, none⟩ = some (.int .i64 (cs.getD k noCa).c) ∧ w.cell? ⟨b, off + k * 13 + 5, none⟩ = some (.int .i64 (cs.getD k noCa).d) ∧ w.cell? ⟨b, off + k * 13 + 6, none⟩ = some (.int .i64 (cs.getD k noCa).e) ∧ w.cell? ⟨b, off + k * 13 + 7, none⟩ = some (.string (cs.getD k noCa).s) ∧ w.cell? ⟨b, off + k * 13 + 8, none⟩ = some (.int .i64 (cs.getD k noCa).p.f) ∧ w.cell? ⟨b, off + k * 13 + 9, none⟩ = some (.int .i64 (cs.getD k noCa).p.b) ∧ w.cell? ⟨b, off + k * 13 + 10, none⟩ = some (.bool (cs.getD k noCa).p.bo) ∧ w.cell? ⟨b, off + k * 13 + 11, none⟩ = some (.bool (cs.getD k noCa).p.un) ∧ w.cell? ⟨b, off + k * 13 + 12, none⟩ = some (.bool (cs.getD k noCa).p.re) ∧ -9223372036854775808 ≤ (cs.getD k noCa).on ∧ (cs.getD k noCa).on ≤ 9223372036854775807
theorem CasIn.below {w w' : World} {a : Option Addr} {n : Nat} {cs : List Ca} (h : CasIn w a n cs) (hb : Below w.heap.size w w') : CasIn w' a n cs := fun k hk => by
  obtain ⟨b, off, e, l, c0, c1, c2, c3, c4, c5, c6, c7, c8, c9, c10, c11, c12, o0, o1⟩ := h k hk
  exact ⟨b, off, e, Nat.lt_of_lt_of_le l hb.size, (hb.cells l _).trans c0, (hb.cells l _).trans c1, (hb.cells l _).trans c2, (hb.cells l _).trans c3, (hb.cells l _).trans c4, (hb.cells l _).trans c5, (hb.cells l _).trans c6, (hb.cells l _).trans c7, (hb.cells l _).trans c8, (hb.cells l _).trans c9, (hb.cells l _).trans c10, (hb.cells l _).trans c11, (hb.cells l _).trans c12, o0, o1⟩
abbrev alArr (xa ya sa xb yb sb : Option Addr) : Array Value := #[.pointer xa, .pointer ya, .pointer sa, .pointer xb, .pointer yb, .pointer sb, .pointer none, .pointer none, .pointer none]
def AllAt (w : World) (b : Nat) (xa ya sa xb yb sb : Option Addr) : Prop := w.heap[b]? = some (.cells (alArr xa ya sa xb yb sb) 28)
theorem AllAt.lt {w : World} {b : Nat} {xa ya sa xb yb sb : Option Addr} (h : AllAt w b xa ya sa xb yb sb) : b < w.heap.size := (Array.getElem?_eq_some_iff.1 h).1
theorem AllAt.keep {F : Nat → Prop} {w w' : World} {b : Nat} {xa ya sa xb yb sb : Option Addr} (h : AllAt w b xa ya sa xb yb sb) (k : Keep F w w') (hF : ¬ F b) : AllAt w' b xa ya sa xb yb sb := by
  unfold AllAt at *; rw [k.block _ (Array.getElem?_eq_some_iff.1 h).1 hF]; exact h
theorem AllAt.below {w w' : World} {b : Nat} {xa ya sa xb yb sb : Option Addr} (h : AllAt w b xa ya sa xb yb sb) (hb : Below w.heap.size w w') : AllAt w' b xa ya sa xb yb sb := h.keep (Keep.below (fun _ => False) hb) id
/-- Two desks and what holds them, in the midst of the script. -/
structure PlAt (w0 : World) (Bl : Nat) (xa ya sa xb yb sb : Option Addr) (A Bq : Option Dv) (m : Int) (w : World) : Prop where
  pA : OAt w A xa ya sa
  pB : OAt w Bq xb yb sb
  dj : ∀ i, oOwn A i → ¬ oOwn Bq i
  uA : ∀ i, oOwn A i → w0.heap.size ≤ i ∧ i ≠ Bl
  uB : ∀ i, oOwn Bq i → w0.heap.size ≤ i ∧ i ≠ Bl
  zA : oLast A ≤ m
  zB : oLast Bq ≤ m
  bel : Below w0.heap.size w0 w
  ql : AllAt w Bl xa ya sa xb yb sb
section
variable {w0 w w' : World} {Bl : Nat} {m : Int} {xa ya sa xb yb sb : Option Addr} {A Bq A' : Option Dv}
theorem PlAt.below (h : PlAt w0 Bl xa ya sa xb yb sb A Bq m w) (b : Below w.heap.size w w') : PlAt w0 Bl xa ya sa xb yb sb A Bq m w' :=
  ⟨h.pA.below b, h.pB.below b, h.dj, h.uA, h.uB, h.zA, h.zB, h.bel.trans (b.mono h.bel.size), h.ql.below b⟩
theorem PlAt.more (h : PlAt w0 Bl xa ya sa xb yb sb A Bq m w) : PlAt w0 Bl xa ya sa xb yb sb A Bq (m + 1) w :=
  ⟨h.pA, h.pB, h.dj, h.uA, h.uB, by have := h.zA; omega, by have := h.zB; omega, h.bel, h.ql⟩
theorem PlAt.stepA (h : PlAt w0 Bl xa ya sa xb yb sb A Bq m w) (P : OAt w' A' xa ya sa) (K : Keep (oOwn A) w w') (u : ∀ i, oOwn A' i → oOwn A i ∨ w.heap.size ≤ i) (hz : oLast A' ≤ oLast A + 1) : PlAt w0 Bl xa ya sa xb yb sb A' Bq (m + 1) w' := by
  have ll := h.ql.lt
  have sz := h.bel.size
  have hzA := h.zA
  have hzB := h.zB
  refine ⟨P, h.pB.keep K (fun i hi q => h.dj i q hi), fun i hi q => ?_, fun i hi => ?_, h.uB, by omega, by omega, h.bel.trans (K.toBelow sz (fun i hi q => ?_)), h.ql.keep K (fun q => (h.uA _ q).2 rfl)⟩
  · rcases u i hi with e | e
    · exact h.dj i e q
    · have := h.pB.lt q; omega
  · rcases u i hi with e | e
    · exact h.uA i e
    · exact ⟨by omega, by omega⟩
  · have := (h.uA i q).1; omega
theorem PlAt.stepB (h : PlAt w0 Bl xa ya sa xb yb sb A Bq m w) (P : OAt w' A' xb yb sb) (K : Keep (oOwn Bq) w w') (u : ∀ i, oOwn A' i → oOwn Bq i ∨ w.heap.size ≤ i) (hz : oLast A' ≤ oLast Bq + 1) : PlAt w0 Bl xa ya sa xb yb sb A A' (m + 1) w' := by
  have ll := h.ql.lt
  have sz := h.bel.size
  have hzA := h.zA
  have hzB := h.zB
  refine ⟨h.pA.keep K (fun i hi q => h.dj i hi q), P, fun i hi q => ?_, h.uA, fun i hi => ?_, by omega, by omega, h.bel.trans (K.toBelow sz (fun i hi q => ?_)), h.ql.keep K (fun q => (h.uB _ q).2 rfl)⟩
  · rcases u i q with e | e
    · exact h.dj i hi e
    · have := h.pA.lt hi; omega
  · rcases u i hi with e | e
    · exact h.uB i e
    · exact ⟨by omega, by omega⟩
  · have := (h.uB i q).1; omega
end
set_option maxRecDepth 10000 in
set_option maxHeartbeats 8000000 in
theorem lPlays (x y v u : Int) (a : Option Addr) (n cap : Nat) (cs : List Ca) (w : World) (hw : 2 ≤ w.heap.size) (hF : CasIn w a n cs) (hn : n ≤ 9223372036854775807) :
    Calls Tryz.prog 8 #[.int .i64 x, .int .i64 y, .int .i64 v, .int .i64 u, .slice a n cap, .bool false] w fun e w' => e = .returned (.bool true) ∧ Below w.heap.size w w' := by
  have HF : Hid (CasIn w a n cs) := hF
  clear hF
  go_enter Tryz.func8, Tryz.ntmps8
  go_wp2_with fail
  go_at_call 9
  refine (lOpened x y _ hw).mono ?_
  rintro e w1 ⟨A, xa, ya, sa, rfl, PA, b1, uA, zA⟩
  have HPA : Hid (OAt w1 A xa ya sa) := PA
  have HuA : Hid (∀ i, oOwn A i → w.heap.size ≤ i) := uA
  have HzA : Hid (oLast A = 0) := zA
  have HB : Hid (Below w.heap.size w w1) := b1
  have HltA : Hid (∀ i, oOwn A i → i < w1.heap.size) := fun i hi => PA.lt hi
  have hs1 : w.heap.size ≤ w1.heap.size := b1.size
  clear PA uA zA b1
  go_wp2_with fail
  generalize hw2 : w1.alloc _ = w2
  have b2 : Below w1.heap.size w1 w2 := by rw [← hw2]; exact (Below.refl _ _).alloc (Nat.le_refl _) _
  have HPa : Hid (DeAt w2 w1.heap.size xa ya sa) := by show _ = _; rw [← hw2]; exact heap_new w1 _
  replace HPA : Hid (OAt w2 A xa ya sa) := HPA.out.below b2
  replace HB : Hid (Below w.heap.size w w2) := HB.out.trans (b2.mono hs1)
  have hs2 : w1.heap.size < w2.heap.size := HPa.out.lt
  generalize w1.heap.size = Ba at *
  clear b2 hw2
  go_at_call 9
  refine (lOpened v u _ (by omega)).mono ?_
  rintro e w3 ⟨Bq, xb, yb, sb', rfl, PB, b3, uB, zB⟩
  have HPB : Hid (OAt w3 Bq xb yb sb') := PB
  have HuB : Hid (∀ i, oOwn Bq i → w2.heap.size ≤ i) := uB
  have HltB : Hid (∀ i, oOwn Bq i → i < w3.heap.size) := fun i hi => PB.lt hi
  have HzB : Hid (oLast Bq = 0) := zB
  replace HPA : Hid (OAt w3 A xa ya sa) := HPA.out.below b3
  replace HPa : Hid (DeAt w3 Ba xa ya sa) := HPa.out.below b3
  replace HB : Hid (Below w.heap.size w w3) := HB.out.trans (b3.mono (by omega))
  have hs3 : w2.heap.size ≤ w3.heap.size := b3.size
  generalize w2.heap.size = n2 at *
  clear PB uB zB b3
  obtain ⟨q0, q1, q2⟩ := HPa.out.cells
  have lqa := HPa.out.lt
  go_wp2_with fail
  generalize hw4 : World.alloc (w3.alloc _) _ = w4
  have b4 : Below w3.heap.size w3 w4 := by rw [← hw4]; exact ((Below.refl _ _).alloc (Nat.le_refl _) _).alloc (by simp) _
  have HSc : Hid (PlAt w (w3.heap.size + 1) xa ya sa xb yb sb' A Bq 0 w4) := by
    refine ⟨HPA.out.below b4, HPB.out.below b4, fun i hi q => ?_, fun i hi => ?_, fun i hi => ?_, Int.le_of_eq HzA.out, Int.le_of_eq HzB.out, HB.out.trans (b4.mono (by omega)), ?_⟩
    · have := HltA.out i hi; have := HuB.out i q; omega
    · have := HltA.out i hi; have := HuA.out i hi; omega
    · have := HltB.out i hi; have := HuB.out i hi; omega
    · show _ = _
      rw [← hw4]
      have := heap_new (w3.alloc (.cells (dkArr xb yb sb') 28)) (.cells (alArr xa ya sa xb yb sb') 28)
      rwa [size_alloc] at this
  generalize w3.heap.size + 1 = Bl at *
  clear hw4 b4 q0 q1 q2 lqa HPA HPB HzA HzB HB HPa HuA HuB HltA HltB
  go_loopw [18] (fun i w' => ∃ (k : Nat) (A Bq : Option Dv), k ≤ n ∧ i = .int .i64 k ∧ PlAt w Bl xa ya sa xb yb sb' A Bq k w') (fun i _ => n - (intOf i).toNat)
  case atStart => exact ⟨0, A, Bq, by omega, rfl, HSc.out⟩
  case round =>
    obtain ⟨k, A, Bq, hk, rfl, hS⟩ := hrel
    clear HSc
    have HSc : Hid (PlAt w Bl xa ya sa xb yb sb' A Bq k wr) := hS
    by_cases hlt : k < n
    · have hlt' : (k : Int) < n := by omega
      obtain ⟨sb, so, rfl, sbl, s0, s1, s2, s3, s4, s5, s6, s7, s8, s9, s10, s11, s12, o0, o1⟩ := HF.out k hlt
      replace s0 := (hS.bel.cells sbl _).trans s0
      replace s1 := (hS.bel.cells sbl _).trans s1
      replace s2 := (hS.bel.cells sbl _).trans s2
      replace s3 := (hS.bel.cells sbl _).trans s3
      replace s4 := (hS.bel.cells sbl _).trans s4
      replace s5 := (hS.bel.cells sbl _).trans s5
      replace s6 := (hS.bel.cells sbl _).trans s6
      replace s7 := (hS.bel.cells sbl _).trans s7
      replace s8 := (hS.bel.cells sbl _).trans s8
      replace s9 := (hS.bel.cells sbl _).trans s9
      replace s10 := (hS.bel.cells sbl _).trans s10
      replace s11 := (hS.bel.cells sbl _).trans s11
      replace s12 := (hS.bel.cells sbl _).trans s12
      generalize cs.getD k noCa = o at *
      have lp := pickK_lt o.on (n := 3) (by omega)
      obtain ⟨p, hp⟩ : ∃ p, pickK o.on 3 = p := ⟨_, rfl⟩
      rw [hp] at lp
      have hcase : p = 0 ∨ p = 1 ∨ p = 2 := by omega
      have HlA : Hid (oLast A < 9223372036854775807) := by have := hS.zA; show _ < _; omega
      have HlB : Hid (oLast Bq < 9223372036854775807) := by have := hS.zB; show _ < _; omega
      clear hS
      by_cases h13 : o.kd = 13
      · have h13' : (o.kd == 13) = true := by simpa using h13
        have HS6 : Hid (PlAt w Bl xa ya sa xb yb sb' A Bq ((k : Int) + 1) wr) := HSc.out.more
        clear h13
        go_wp2_with fail
        exact ⟨⟨k + 1, A, Bq, by omega, by simp, HS6.out⟩, by simp only [intOf]; omega⟩
      have h13' : (o.kd == 13) = false := by simpa using h13
      have H13 : Hid (o.kd ≠ 13) := h13
      clear h13
      go_wp2_with fail
      rcases hcase with rfl | rfl | rfl
      · skip
        have r0 : wr.cell? ⟨Bl, 0, none⟩ = some (.pointer xa) := cell_of_block HSc.out.ql 0
        have r1 : wr.cell? ⟨Bl, 1, none⟩ = some (.pointer ya) := cell_of_block HSc.out.ql 1
        have r2 : wr.cell? ⟨Bl, 2, none⟩ = some (.pointer sa) := cell_of_block HSc.out.ql 2
        have HD : Hid (PlAt w Bl xa ya sa xb yb sb' A Bq k wr.drew) := HSc.out.below (below_drewN wr 1)
        go_region_held3 (fun w' => w'.cell? ⟨sb, so + k * 13, none⟩ = some (.int .i64 o.kd) ∧ w'.cell? ⟨sb, so + k * 13 + 1, none⟩ = some (.int .i64 o.on) ∧ w'.cell? ⟨sb, so + k * 13 + 2, none⟩ = some (.int .i64 o.a) ∧ w'.cell? ⟨sb, so + k * 13 + 3, none⟩ = some (.int .i64 o.b) ∧ w'.cell? ⟨sb, so + k * 13 + 4, none⟩ = some (.int .i64 o.c) ∧ w'.cell? ⟨sb, so + k * 13 + 5, none⟩ = some (.int .i64 o.d) ∧ w'.cell? ⟨sb, so + k * 13 + 6, none⟩ = some (.int .i64 o.e) ∧ w'.cell? ⟨sb, so + k * 13 + 7, none⟩ = some (.string o.s) ∧ w'.cell? ⟨sb, so + k * 13 + 8, none⟩ = some (.int .i64 o.p.f) ∧ w'.cell? ⟨sb, so + k * 13 + 9, none⟩ = some (.int .i64 o.p.b) ∧ w'.cell? ⟨sb, so + k * 13 + 10, none⟩ = some (.bool o.p.bo) ∧ w'.cell? ⟨sb, so + k * 13 + 11, none⟩ = some (.bool o.p.un) ∧ w'.cell? ⟨sb, so + k * 13 + 12, none⟩ = some (.bool o.p.re) ∧ w'.cell? ⟨Bl, 0, none⟩ = some (.pointer xa) ∧ w'.cell? ⟨Bl, 1, none⟩ = some (.pointer ya) ∧ w'.cell? ⟨Bl, 2, none⟩ = some (.pointer sa)) (simp [*]) (first | (go_at_call 26; refine (lPickP o.on 3 _ (by omega) (by omega) o0 o1).mono ?_; rintro e w' ⟨rfl, hw'⟩; replace hw' := hw'.symm; subst hw'; rw [hp]) | (go_at_call 10; refine (lCallAny HD.out.pA o H13.out HlA.out).mono ?_; rintro e w6 ⟨A6, rfl, P6, K6, u6, z6⟩; have HS6 : Hid (PlAt w Bl xa ya sa xb yb sb' A6 Bq ((k : Int) + 1) w6) := HD.out.stepA P6 K6 u6 z6; have e1 := fun o => (HS6.out.bel.cells sbl o).trans (HSc.out.bel.cells sbl o).symm; have e2 : w6.cell? ⟨Bl, 0, none⟩ = some (.pointer xa) := cell_of_block HS6.out.ql 0; have e3 : w6.cell? ⟨Bl, 1, none⟩ = some (.pointer ya) := cell_of_block HS6.out.ql 1; have e4 : w6.cell? ⟨Bl, 2, none⟩ = some (.pointer sa) := cell_of_block HS6.out.ql 2))
        go_wp2_with fail
        exact ⟨⟨k + 1, _, _, by omega, by simp, HS6.out⟩, by simp only [intOf]; omega⟩
      · skip
        have r0 : wr.cell? ⟨Bl, 3, none⟩ = some (.pointer xb) := cell_of_block HSc.out.ql 3
        have r1 : wr.cell? ⟨Bl, 4, none⟩ = some (.pointer yb) := cell_of_block HSc.out.ql 4
        have r2 : wr.cell? ⟨Bl, 5, none⟩ = some (.pointer sb') := cell_of_block HSc.out.ql 5
        have HD : Hid (PlAt w Bl xa ya sa xb yb sb' A Bq k wr.drew) := HSc.out.below (below_drewN wr 1)
        go_region_held3 (fun w' => w'.cell? ⟨sb, so + k * 13, none⟩ = some (.int .i64 o.kd) ∧ w'.cell? ⟨sb, so + k * 13 + 1, none⟩ = some (.int .i64 o.on) ∧ w'.cell? ⟨sb, so + k * 13 + 2, none⟩ = some (.int .i64 o.a) ∧ w'.cell? ⟨sb, so + k * 13 + 3, none⟩ = some (.int .i64 o.b) ∧ w'.cell? ⟨sb, so + k * 13 + 4, none⟩ = some (.int .i64 o.c) ∧ w'.cell? ⟨sb, so + k * 13 + 5, none⟩ = some (.int .i64 o.d) ∧ w'.cell? ⟨sb, so + k * 13 + 6, none⟩ = some (.int .i64 o.e) ∧ w'.cell? ⟨sb, so + k * 13 + 7, none⟩ = some (.string o.s) ∧ w'.cell? ⟨sb, so + k * 13 + 8, none⟩ = some (.int .i64 o.p.f) ∧ w'.cell? ⟨sb, so + k * 13 + 9, none⟩ = some (.int .i64 o.p.b) ∧ w'.cell? ⟨sb, so + k * 13 + 10, none⟩ = some (.bool o.p.bo) ∧ w'.cell? ⟨sb, so + k * 13 + 11, none⟩ = some (.bool o.p.un) ∧ w'.cell? ⟨sb, so + k * 13 + 12, none⟩ = some (.bool o.p.re) ∧ w'.cell? ⟨Bl, 3, none⟩ = some (.pointer xb) ∧ w'.cell? ⟨Bl, 4, none⟩ = some (.pointer yb) ∧ w'.cell? ⟨Bl, 5, none⟩ = some (.pointer sb')) (simp [*]) (first | (go_at_call 26; refine (lPickP o.on 3 _ (by omega) (by omega) o0 o1).mono ?_; rintro e w' ⟨rfl, hw'⟩; replace hw' := hw'.symm; subst hw'; rw [hp]) | (go_at_call 10; refine (lCallAny HD.out.pB o H13.out HlB.out).mono ?_; rintro e w6 ⟨A6, rfl, P6, K6, u6, z6⟩; have HS6 : Hid (PlAt w Bl xa ya sa xb yb sb' A A6 ((k : Int) + 1) w6) := HD.out.stepB P6 K6 u6 z6; have e1 := fun o => (HS6.out.bel.cells sbl o).trans (HSc.out.bel.cells sbl o).symm; have e2 : w6.cell? ⟨Bl, 3, none⟩ = some (.pointer xb) := cell_of_block HS6.out.ql 3; have e3 : w6.cell? ⟨Bl, 4, none⟩ = some (.pointer yb) := cell_of_block HS6.out.ql 4; have e4 : w6.cell? ⟨Bl, 5, none⟩ = some (.pointer sb') := cell_of_block HS6.out.ql 5))
        go_wp2_with fail
        exact ⟨⟨k + 1, _, _, by omega, by simp, HS6.out⟩, by simp only [intOf]; omega⟩
      · skip
        have r0 : wr.cell? ⟨Bl, 6, none⟩ = some (.pointer none) := cell_of_block HSc.out.ql 6
        have r1 : wr.cell? ⟨Bl, 7, none⟩ = some (.pointer none) := cell_of_block HSc.out.ql 7
        have r2 : wr.cell? ⟨Bl, 8, none⟩ = some (.pointer none) := cell_of_block HSc.out.ql 8
        have HD : Hid (PlAt w Bl xa ya sa xb yb sb' A Bq k wr.drew) := HSc.out.below (below_drewN wr 1)
        go_region_held3 (fun w' => w'.cell? ⟨sb, so + k * 13, none⟩ = some (.int .i64 o.kd) ∧ w'.cell? ⟨sb, so + k * 13 + 1, none⟩ = some (.int .i64 o.on) ∧ w'.cell? ⟨sb, so + k * 13 + 2, none⟩ = some (.int .i64 o.a) ∧ w'.cell? ⟨sb, so + k * 13 + 3, none⟩ = some (.int .i64 o.b) ∧ w'.cell? ⟨sb, so + k * 13 + 4, none⟩ = some (.int .i64 o.c) ∧ w'.cell? ⟨sb, so + k * 13 + 5, none⟩ = some (.int .i64 o.d) ∧ w'.cell? ⟨sb, so + k * 13 + 6, none⟩ = some (.int .i64 o.e) ∧ w'.cell? ⟨sb, so + k * 13 + 7, none⟩ = some (.string o.s) ∧ w'.cell? ⟨sb, so + k * 13 + 8, none⟩ = some (.int .i64 o.p.f) ∧ w'.cell? ⟨sb, so + k * 13 + 9, none⟩ = some (.int .i64 o.p.b) ∧ w'.cell? ⟨sb, so + k * 13 + 10, none⟩ = some (.bool o.p.bo) ∧ w'.cell? ⟨sb, so + k * 13 + 11, none⟩ = some (.bool o.p.un) ∧ w'.cell? ⟨sb, so + k * 13 + 12, none⟩ = some (.bool o.p.re) ∧ w'.cell? ⟨Bl, 6, none⟩ = some (.pointer none) ∧ w'.cell? ⟨Bl, 7, none⟩ = some (.pointer none) ∧ w'.cell? ⟨Bl, 8, none⟩ = some (.pointer none)) (simp [*]) (first | (go_at_call 26; refine (lPickP o.on 3 _ (by omega) (by omega) o0 o1).mono ?_; rintro e w' ⟨rfl, hw'⟩; replace hw' := hw'.symm; subst hw'; rw [hp]) | (go_at_call 10; refine (lCallAny (O := none) (x := none) (y := none) (s := none) ⟨rfl, rfl, rfl⟩ o H13.out (by show (0 : Int) < _; omega)).mono ?_; rintro e w6 ⟨A6, rfl, P6, K6, u6, z6⟩; have HS6 : Hid (PlAt w Bl xa ya sa xb yb sb' A Bq ((k : Int) + 1) w6) := (HD.out.below (K6.toBelow (Nat.le_refl _) (fun _ _ q => q))).more; have e1 := fun o => (HS6.out.bel.cells sbl o).trans (HSc.out.bel.cells sbl o).symm; have e2 : w6.cell? ⟨Bl, 6, none⟩ = some (.pointer none) := cell_of_block HS6.out.ql 6; have e3 : w6.cell? ⟨Bl, 7, none⟩ = some (.pointer none) := cell_of_block HS6.out.ql 7; have e4 : w6.cell? ⟨Bl, 8, none⟩ = some (.pointer none) := cell_of_block HS6.out.ql 8))
        go_wp2_with fail
        exact ⟨⟨k + 1, _, _, by omega, by simp, HS6.out⟩, by simp only [intOf]; omega⟩
    · have hlt' : ¬ (k : Int) < n := by omega
      clear hS
      go_wp2_with fail
      go_loopw [20] (fun i w' => ∃ j : Nat, j ≤ 3 ∧ i = .int .i64 j ∧ PlAt w Bl xa ya sa xb yb sb' A Bq k w') (fun i _ => 3 - (intOf i).toNat)
      case atStart => exact ⟨0, by omega, rfl, HSc.out⟩
      case round =>
        obtain ⟨j, hj, rfl, hS⟩ := hrel
        clear HSc
        have HSc : Hid (PlAt w Bl xa ya sa xb yb sb' A Bq k wr) := hS
        clear hS
        obtain rfl | rfl | rfl | rfl : j = 0 ∨ j = 1 ∨ j = 2 ∨ j = 3 := by omega
        · skip
          have r0 : wr.cell? ⟨Bl, 0, none⟩ = some (.pointer xa) := cell_of_block HSc.out.ql 0
          have r1 : wr.cell? ⟨Bl, 1, none⟩ = some (.pointer ya) := cell_of_block HSc.out.ql 1
          have r2 : wr.cell? ⟨Bl, 2, none⟩ = some (.pointer sa) := cell_of_block HSc.out.ql 2
          go_wp2_with fail
          go_at_call 27
          refine (lLookD HSc.out.pA).mono ?_
          rintro e w5 ⟨rfl, b5⟩
          have HS5 : Hid (PlAt w Bl xa ya sa xb yb sb' A Bq k w5) := HSc.out.below b5
          clear b5 r0 r1 r2
          go_wp2_with fail
          exact ⟨⟨1, by omega, by simp, HS5.out⟩, by simp [intOf]⟩
        · skip
          have r0 : wr.cell? ⟨Bl, 3, none⟩ = some (.pointer xb) := cell_of_block HSc.out.ql 3
          have r1 : wr.cell? ⟨Bl, 4, none⟩ = some (.pointer yb) := cell_of_block HSc.out.ql 4
          have r2 : wr.cell? ⟨Bl, 5, none⟩ = some (.pointer sb') := cell_of_block HSc.out.ql 5
          go_wp2_with fail
          go_at_call 27
          refine (lLookD HSc.out.pB).mono ?_
          rintro e w5 ⟨rfl, b5⟩
          have HS5 : Hid (PlAt w Bl xa ya sa xb yb sb' A Bq k w5) := HSc.out.below b5
          clear b5 r0 r1 r2
          go_wp2_with fail
          exact ⟨⟨2, by omega, by simp, HS5.out⟩, by simp [intOf]⟩
        · skip
          have r0 : wr.cell? ⟨Bl, 6, none⟩ = some (.pointer none) := cell_of_block HSc.out.ql 6
          have r1 : wr.cell? ⟨Bl, 7, none⟩ = some (.pointer none) := cell_of_block HSc.out.ql 7
          have r2 : wr.cell? ⟨Bl, 8, none⟩ = some (.pointer none) := cell_of_block HSc.out.ql 8
          go_wp2_with fail
          go_at_call 27
          refine (lLookD (O := none) (x := none) (y := none) (s := none) ⟨rfl, rfl, rfl⟩).mono ?_
          rintro e w5 ⟨rfl, b5⟩
          have HS5 : Hid (PlAt w Bl xa ya sa xb yb sb' A Bq k w5) := HSc.out.below b5
          clear b5 r0 r1 r2
          go_wp2_with fail
          exact ⟨⟨3, by omega, by simp, HS5.out⟩, by simp [intOf]⟩
        · have HB : Hid (Below w.heap.size w wr) := HSc.out.bel
          go_wp2_with fail
          go_ret
          exact ⟨rfl, HB.out⟩
end Go.Proofs.YtjlfibhbfdckpaaGreatDoor

/- The statement of pictures: its own example. -/
namespace Go.Proofs.YtjlfibhbfdckpaaGreatDoor
open Go.RowKit
attribute [local go_sem ↓] Go.wp_at_zero Go.wp_at_succ
def exC1 : Ca := ⟨1, 0, 0, 1, 0, 2, 1, ⟨#[]⟩, Pn.plain⟩
def exC8 : Ca := ⟨8, 0, 1, 0, 0, 0, 0, ⟨#[120, 121]⟩, Pn.plain⟩
def exW : Wn := ⟨1, 0, 1, 0, true, 2, 1, fun _ _ => blk Pn.plain⟩
def exL1 : List Wn := [rootW 4 2, exW]
def exG : Nat → Nat → Cel := writeAll 2 1 0 Pn.plain 0 (runesG ⟨#[120, 121]⟩ 2 0) (fun _ _ => blk Pn.plain)
def exL2 : List Wn := updL exL1 1 (fun u => { u with G := exG })
theorem exT : Tree exL2 (fun n => if n = 0 then 0 else 1) 1 := by
  refine ⟨⟨rootW 4 2, [{ exW with G := exG }], rfl, rfl, rfl, fun v hv => ?_⟩, by decide, fun v hv hp => ?_, fun v hv => ?_⟩
  · obtain rfl : v = { exW with G := exG } := by simpa using hv
    exact ⟨by decide, by decide⟩
  · have hv' : v = rootW 4 2 ∨ v = { exW with G := exG } := by simpa [exL2, updL, exL1, rootW, exW] using hv
    rcases hv' with rfl | rfl
    · exact absurd hp (by decide)
    · exact ⟨⟨rootW 4 2, by simp [exL2, updL, exL1, rootW, exW], rfl⟩, by decide⟩
  · split <;> omega
theorem exPic : picP exL2 1 (rootW 4 2) 2 0 = ⟨121, 0, Pn.plain⟩ := by rfl
theorem lEx1 {w : World} {D : Dv} (h : DvAt w D) (hL : D.L = [rootW 4 2]) (hl : D.last = 0) :
    Calls Tryz.prog 10 #[.agg (dkArr D.xp D.yp D.sp), exC1.agg] w fun e w' => e = .returned (.bool true) ∧ ∃ D', D'.L = exL1 ∧ D'.last = 1 ∧ DvPost w D D' w' := by
  have ok := h.ok
  rw [hL, hl] at ok
  have T : Tot 48 96 (fun p => #[.pointer p, .int .i64 0, .int .i64 1, .int .i64 0, .int .i64 2, .int .i64 1]) D.L D.last exL1 1 (.tuple #[.int .i64 1, .int .i64 0]) := by
    rw [hL, hl]
    exact totCreateYes ok (Int.le_refl 0) (by omega) (rootW 4 2) (by simp) 1 0 2 1 (by decide) (by decide) (by decide)
  refine (lcallMoves exC1 (by decide) (by decide) (by decide) (by decide) (by decide) (by decide) (Q := fun wA w' => ∃ D', D'.L = exL1 ∧ D'.last = 1 ∧ DvPost wA D D' w') (fun wA b => ?_)).mono ?_
  · have hA := h.below b
    refine (lmoves1 0 0 1 0 2 1 ⟨#[]⟩ Pn.plain (O := D.own) (Q := fun wA w' => ∃ D', D'.L = exL1 ∧ D'.last = 1 ∧ DvPost wA D D' w') (fun i hi => hA.lt hi) (fun wB q => T.both hA wB q)).mono ?_
    rintro e w' ⟨rfl, wB, q, D', e1, e2, P⟩
    exact ⟨rfl, D', e1, e2, P.after q⟩
  · rintro e w' ⟨rfl, wA, q, D', e1, e2, P⟩
    exact ⟨rfl, D', e1, e2, P.after q⟩
theorem lEx8 {w : World} {D : Dv} (h : DvAt w D) (hL : D.L = exL1) :
    Calls Tryz.prog 10 #[.agg (dkArr D.xp D.yp D.sp), exC8.agg] w fun e w' => e = .returned (.bool true) ∧ ∃ D', D'.L = exL2 ∧ DvPost w D D' w' := by
  have ok := h.ok
  rw [hL] at ok
  have T : Tot 31 32 (fun q => #[.pointer q, .int .i64 1, .int .i64 0, .int .i64 0, .string ⟨#[120, 121]⟩, Pn.plain.agg]) D.L D.last exL2 D.last (.int .i64 0) := by
    rw [hL]
    exact totWriteYes ok exW (by simp [exL1]) 0 0 (by decide) ⟨#[120, 121]⟩ (by decide) Pn.plain (by decide)
  refine (lcall8 0 1 0 0 0 0 ⟨#[120, 121]⟩ Pn.plain (O := D.own) (Q := fun wA w' => ∃ D', D'.L = exL2 ∧ D'.last = D.last ∧ DvPost wA D D' w') (fun i hi => h.lt hi) (fun wB q => T.both h wB q)).mono ?_
  rintro e w' ⟨rfl, wB, q, D', e1, e2, P⟩
  exact ⟨rfl, D', e1, P.after q⟩
end Go.Proofs.YtjlfibhbfdckpaaGreatDoor
