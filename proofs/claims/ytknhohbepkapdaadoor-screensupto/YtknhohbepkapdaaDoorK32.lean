/- Texts of the proof, one behind the other: RfAK, RfAL, ShB. -/
import Derived.Test.YtknhohbepkapdaaDoorK06
import Derived.Test.YtknhohbepkapdaaDoorK20
import Derived.Test.YtknhohbepkapdaaDoorK31
import Derived.Laws.Concat
import Derived.Lib.Strings
/- The document's screen: one, in a letter. -/
namespace Go.Proofs.YtknhohbepkapdaaDoor
open Go.RowKit
attribute [local go_sem ↓] Go.wp_at_zero Go.wp_at_succ
set_option maxRecDepth 100000 in
set_option maxHeartbeats 2000000 in
theorem oneU2no (bs bc g cap N : Nat) (s : Rs) (c : UInt8) (a b : UInt8) (w : World) (h : RefAt w bs bc g cap N s) (ok : s.Ok) (hB : s.B = ⟨#[a, b]⟩) (a1 : 194 ≤ a.toNat) (a2 : a.toNat ≤ 244) (hg : goesOnB [a, b] c.toNat = false) :
    Calls Tryd.prog 36 #[.pointer (some ⟨bs, 0, none⟩), .int .u8 c.toNat] w (RPost bs bc g w (groundR (oddR { s with B := ⟨#[]⟩ }) c) (.tuple #[])) := by
  have HR : Hid (RefAt w bs bc g cap N s) := h
  have Hok : Hid s.Ok := ok
  have hc256 : c.toNat < 256 := c.toNat_lt
  have fr := HR.out.free
  have f15 := HR.out.f15
  have f14 := HR.out.f14
  have l := HR.out.lt
  clear h ok
  rw [hB] at f14
  clear hB
  have e0 : (({ data := #[a, b] } : ByteArray)[0]'(show 0 < 2 by decide)).toNat = a.toNat := rfl
  have k27 : ((a.toNat : Int) == 27) = false := by simp; omega
  have kn27 : ((a.toNat : Int) != 27) = true := by simp; omega
  have ok2 : Hid (Rs.Ok (oddR { s with B := ⟨#[]⟩ })) := ⟨Hok.out.w1, Hok.out.w2, Hok.out.h1, Hok.out.h2, Hok.out.x0, Hok.out.x1, Hok.out.y0, Hok.out.y1, Hok.out.t0, Hok.out.tb, Hok.out.b1, Hok.out.pd, Hok.out.wf⟩
  go_enter Tryd.func36, Tryd.ntmps36
  go_wp2_with fail
  go_at_call 54
  refine (refGoesOn2 a b c.toNat _ (by omega) (by omega)).mono ?_
  rintro e w' ⟨rfl, hw'⟩
  replace hw' := hw'.symm
  subst hw'
  go_wp2_with fail
  go_at_call 53
  refine (refGround bs bc g cap N (oddR { s with B := ⟨#[]⟩ }) c _ ((HR.out.setB ⟨#[]⟩).setOdd (wrap64 (s.odd + 1))) ok2.out).mono ?_
  rintro e w5 ⟨g5, cap5, N5, rfl, R5, K5, hg5⟩
  have HR5 : Hid (RefAt w5 bs bc g5 cap5 N5 (groundR (oddR { s with B := ⟨#[]⟩ }) c)) := R5
  have Hg : Hid (g5 = g ∨ w.heap.size ≤ g5) := hg5.imp id (fun q => by rw [set_size, set_size] at q; exact q)
  have K6 : Keep (fun i => i = bs ∨ i = bc ∨ i = g) w w5 := (((Keep.refl (fun i => i = bs ∨ i = bc ∨ i = g) w).setCell ⟨bs, 14, none⟩ (.string ⟨#[]⟩) (fun _ => .inl rfl)).setCell ⟨bs, 15, none⟩ (.int .i64 (wrap64 (s.odd + 1))) (fun _ => .inl rfl)).trans K5 (fun _ _ h => h)
  clear R5 hg5 K5
  go_wp2_with fail
  exact bodyPost_ret (v := .tuple #[]) (by simp [results, Tryd.results36, go_sem]) rfl (rpost HR5.out K6 Hg.out)
set_option maxRecDepth 100000 in
set_option maxHeartbeats 2000000 in
theorem oneU2more (bs bc g cap N : Nat) (s : Rs) (c : UInt8) (a b : UInt8) (w : World) (h : RefAt w bs bc g cap N s) (ok : s.Ok) (hB : s.B = ⟨#[a, b]⟩) (a1 : 194 ≤ a.toNat) (a2 : a.toNat ≤ 244) (hg : goesOnB [a, b] c.toNat = true) (hl : longR a.toNat ≠ 3) :
    Calls Tryd.prog 36 #[.pointer (some ⟨bs, 0, none⟩), .int .u8 c.toNat] w (RPost bs bc g w ({ s with B := ⟨#[a, b, c]⟩ }) (.tuple #[])) := by
  have HR : Hid (RefAt w bs bc g cap N s) := h
  have Hok : Hid s.Ok := ok
  have hc256 : c.toNat < 256 := c.toNat_lt
  have fr := HR.out.free
  have f15 := HR.out.f15
  have f14 := HR.out.f14
  have l := HR.out.lt
  clear h ok
  rw [hB] at f14
  clear hB
  have e0 : (({ data := #[a, b] } : ByteArray)[0]'(show 0 < 2 by decide)).toNat = a.toNat := rfl
  have k27 : ((a.toNat : Int) == 27) = false := by simp; omega
  have kn27 : ((a.toNat : Int) != 27) = true := by simp; omega
  have hcv := conv_one c (w.alloc (.cells #[.int .u8 c.toNat] 5)).drew w.heap.size (cell_of_block (heap_new w _) 0)
  have hadd2 : ∀ w' : World, (Op.stringOp .add ⟨#[a, b]⟩ ⟨#[c]⟩).run Tryd.prog w' = .ok (.string ⟨#[a, b, c]⟩) w' := fun w' => run_string_add_sum (P := Tryd.prog) w' ⟨#[a, b]⟩ ⟨#[c]⟩ (by show 2 + 1 ≤ _; decide)
  have hl1 : ((3 : Int) == longR a.toNat) = false := by simp; omega
  clear hl
  go_enter Tryd.func36, Tryd.ntmps36
  go_wp2_with fail
  go_at_call 54
  refine (refGoesOn2 a b c.toNat _ (by omega) (by omega)).mono ?_
  rintro e w' ⟨rfl, hw'⟩
  replace hw' := hw'.symm
  subst hw'
  go_wp2_with fail
  go_region
  all_goals
    have R2 : RefAt ((w.setCell ⟨bs, 14, none⟩ (.string ⟨#[a, b, c]⟩)).alloc (.cells #[.int .u8 c.toNat] 5)).drew bs bc g cap N { s with B := ⟨#[a, b, c]⟩ } := ((HR.out.setB ⟨#[a, b, c]⟩).below ((Below.refl _ _).alloc (Nat.le_refl _) _)).drew
    have K2 : Keep (fun i => i = bs ∨ i = bc ∨ i = g) w ((w.setCell ⟨bs, 14, none⟩ (.string ⟨#[a, b, c]⟩)).alloc (.cells #[.int .u8 c.toNat] 5)).drew := (((Keep.refl _ w).setCell ⟨bs, 14, none⟩ _ (fun _ => .inl rfl)).alloc _).drew
    generalize ((w.setCell ⟨bs, 14, none⟩ (.string ⟨#[a, b, c]⟩)).alloc (.cells #[.int .u8 c.toNat] 5)).drew = w2 at *
    have HR2 : Hid (RefAt w2 bs bc g cap N { s with B := ⟨#[a, b, c]⟩ }) := R2
    have g14 : w2.cell? ⟨bs, 14, none⟩ = some (.string ⟨#[a, b, c]⟩) := R2.f14
    have gfr := R2.free
    have e9 : (({ data := #[a, b, c] } : ByteArray)[0]'(show 0 < 3 by decide)).toNat = a.toNat := rfl
    clear R2 hcv hadd2 f14 fr f15 HR
    go_wp2_with fail
    go_quiet ((go_at_call 55; exact Calls.quiet_of_same (refLong _ _ (by omega) (by omega))))
    have HR3 : Hid (RefAt (w2.drewN nq) bs bc g cap N { s with B := ⟨#[a, b, c]⟩ }) := HR2.out.drewN nq
    have K3 : Keep (fun i => i = bs ∨ i = bc ∨ i = g) w (w2.drewN nq) := K2.drewN nq
    generalize w2.drewN nq = w3 at *
    have h14 : w3.cell? ⟨bs, 14, none⟩ = some (.string ⟨#[a, b, c]⟩) := HR3.out.f14
    have hfr := HR3.out.free
    clear g14 gfr HR2 K2
    go_wp2_with fail
    go_end0
    exact rpost HR3.out K3 (.inl rfl)
set_option maxRecDepth 100000 in
set_option maxHeartbeats 2000000 in
theorem oneU2put (bs bc g cap N : Nat) (s : Rs) (c : UInt8) (a b : UInt8) (w : World) (h : RefAt w bs bc g cap N s) (ok : s.Ok) (hB : s.B = ⟨#[a, b]⟩) (a1 : 224 ≤ a.toNat) (a2 : a.toNat ≤ 239) (lb : 128 ≤ b.toNat) (ub : b.toNat ≤ 191) (lc : 128 ≤ c.toNat) (uc : c.toNat ≤ 191) (hg : goesOnB [a, b] c.toNat = true) :
    Calls Tryd.prog 36 #[.pointer (some ⟨bs, 0, none⟩), .int .u8 c.toNat] w (RPost bs bc g w (putR { s with B := ⟨#[]⟩ } (letterR [a, b, c])) (.tuple #[])) := by
  have HR : Hid (RefAt w bs bc g cap N s) := h
  have Hok : Hid s.Ok := ok
  have hc256 : c.toNat < 256 := c.toNat_lt
  have fr := HR.out.free
  have f15 := HR.out.f15
  have f14 := HR.out.f14
  have l := HR.out.lt
  clear h ok
  rw [hB] at f14
  clear hB
  have e0 : (({ data := #[a, b] } : ByteArray)[0]'(show 0 < 2 by decide)).toNat = a.toNat := rfl
  have k27 : ((a.toNat : Int) == 27) = false := by simp; omega
  have kn27 : ((a.toNat : Int) != 27) = true := by simp; omega
  have hcv := conv_one c (w.alloc (.cells #[.int .u8 c.toNat] 5)).drew w.heap.size (cell_of_block (heap_new w _) 0)
  have hadd2 : ∀ w' : World, (Op.stringOp .add ⟨#[a, b]⟩ ⟨#[c]⟩).run Tryd.prog w' = .ok (.string ⟨#[a, b, c]⟩) w' := fun w' => run_string_add_sum (P := Tryd.prog) w' ⟨#[a, b]⟩ ⟨#[c]⟩ (by show 2 + 1 ≤ _; decide)
  have hl : longR a.toNat = 3 := by unfold longR; rw [if_neg (by omega), if_pos (by omega)]
  have ok2 : Hid (Rs.Ok { s with B := ⟨#[]⟩ }) := ⟨Hok.out.w1, Hok.out.w2, Hok.out.h1, Hok.out.h2, Hok.out.x0, Hok.out.x1, Hok.out.y0, Hok.out.y1, Hok.out.t0, Hok.out.tb, Hok.out.b1, Hok.out.pd, Hok.out.wf⟩
  have hr0 : Hid (-2147483648 ≤ letterR [a, b, c] ∧ letterR [a, b, c] ≤ 2147483647) := by
    show -2147483648 ≤ letterR [a, b, c] ∧ letterR [a, b, c] ≤ 2147483647
    unfold letterR
    simp only
    omega
  go_enter Tryd.func36, Tryd.ntmps36
  go_wp2_with fail
  go_at_call 54
  refine (refGoesOn2 a b c.toNat _ (by omega) (by omega)).mono ?_
  rintro e w' ⟨rfl, hw'⟩
  replace hw' := hw'.symm
  subst hw'
  go_wp2_with fail
  go_region
  all_goals
    have R2 : RefAt ((w.setCell ⟨bs, 14, none⟩ (.string ⟨#[a, b, c]⟩)).alloc (.cells #[.int .u8 c.toNat] 5)).drew bs bc g cap N { s with B := ⟨#[a, b, c]⟩ } := ((HR.out.setB ⟨#[a, b, c]⟩).below ((Below.refl _ _).alloc (Nat.le_refl _) _)).drew
    have K2 : Keep (fun i => i = bs ∨ i = bc ∨ i = g) w ((w.setCell ⟨bs, 14, none⟩ (.string ⟨#[a, b, c]⟩)).alloc (.cells #[.int .u8 c.toNat] 5)).drew := (((Keep.refl _ w).setCell ⟨bs, 14, none⟩ _ (fun _ => .inl rfl)).alloc _).drew
    generalize ((w.setCell ⟨bs, 14, none⟩ (.string ⟨#[a, b, c]⟩)).alloc (.cells #[.int .u8 c.toNat] 5)).drew = w2 at *
    have HR2 : Hid (RefAt w2 bs bc g cap N { s with B := ⟨#[a, b, c]⟩ }) := R2
    have g14 : w2.cell? ⟨bs, 14, none⟩ = some (.string ⟨#[a, b, c]⟩) := R2.f14
    have gfr := R2.free
    have e9 : (({ data := #[a, b, c] } : ByteArray)[0]'(show 0 < 3 by decide)).toNat = a.toNat := rfl
    clear R2 hcv hadd2 f14 fr f15 HR
    go_wp2_with fail
    go_quiet ((go_at_call 55; exact Calls.quiet_of_same (refLong _ _ (by omega) (by omega))))
    have HR3 : Hid (RefAt (w2.drewN nq) bs bc g cap N { s with B := ⟨#[a, b, c]⟩ }) := HR2.out.drewN nq
    have K3 : Keep (fun i => i = bs ∨ i = bc ∨ i = g) w (w2.drewN nq) := K2.drewN nq
    generalize w2.drewN nq = w3 at *
    have h14 : w3.cell? ⟨bs, 14, none⟩ = some (.string ⟨#[a, b, c]⟩) := HR3.out.f14
    have hfr := HR3.out.free
    clear g14 gfr HR2 K2
    go_wp2_with fail
    go_at_call 56
    refine (refLetter3 a b c _ a1 a2 lb ub lc uc).mono ?_
    rintro e w' ⟨rfl, hw'⟩
    replace hw' := hw'.symm
    subst hw'
    generalize hle : letterR [a, b, c] = r at *
    go_wp2_with fail
    go_at_call 57
    refine (refPut bs bc g cap N { s with B := ⟨#[]⟩ } r _ (HR3.out.setB ⟨#[]⟩) ok2.out hr0.out.1 hr0.out.2).mono ?_
    rintro e w5 ⟨g5, cap5, N5, rfl, R5, K5, hg5⟩
    have HR5 : Hid (RefAt w5 bs bc g5 cap5 N5 (putR { s with B := ⟨#[]⟩ } r)) := R5
    have sz3 := K3.size
    have Hg : Hid (g5 = g ∨ w.heap.size ≤ g5) := hg5.imp id (fun q => by rw [set_size] at q; omega)
    have K6 : Keep (fun i => i = bs ∨ i = bc ∨ i = g) w w5 := (K3.setCell ⟨bs, 14, none⟩ (.string ⟨#[]⟩) (fun _ => .inl rfl)).trans K5 (fun _ _ h => h)
    clear R5 hg5 K5 hle
    go_wp2_with fail
    go_end0
    exact rpost HR5.out K6 Hg.out
set_option maxRecDepth 100000 in
set_option maxHeartbeats 2000000 in
theorem oneU3no (bs bc g cap N : Nat) (s : Rs) (c : UInt8) (a b d : UInt8) (w : World) (h : RefAt w bs bc g cap N s) (ok : s.Ok) (hB : s.B = ⟨#[a, b, d]⟩) (a1 : 194 ≤ a.toNat) (a2 : a.toNat ≤ 244) (hg : goesOnB [a, b, d] c.toNat = false) :
    Calls Tryd.prog 36 #[.pointer (some ⟨bs, 0, none⟩), .int .u8 c.toNat] w (RPost bs bc g w (groundR (oddR { s with B := ⟨#[]⟩ }) c) (.tuple #[])) := by
  have HR : Hid (RefAt w bs bc g cap N s) := h
  have Hok : Hid s.Ok := ok
  have hc256 : c.toNat < 256 := c.toNat_lt
  have fr := HR.out.free
  have f15 := HR.out.f15
  have f14 := HR.out.f14
  have l := HR.out.lt
  clear h ok
  rw [hB] at f14
  clear hB
  have e0 : (({ data := #[a, b, d] } : ByteArray)[0]'(show 0 < 3 by decide)).toNat = a.toNat := rfl
  have k27 : ((a.toNat : Int) == 27) = false := by simp; omega
  have kn27 : ((a.toNat : Int) != 27) = true := by simp; omega
  have ok2 : Hid (Rs.Ok (oddR { s with B := ⟨#[]⟩ })) := ⟨Hok.out.w1, Hok.out.w2, Hok.out.h1, Hok.out.h2, Hok.out.x0, Hok.out.x1, Hok.out.y0, Hok.out.y1, Hok.out.t0, Hok.out.tb, Hok.out.b1, Hok.out.pd, Hok.out.wf⟩
  go_enter Tryd.func36, Tryd.ntmps36
  go_wp2_with fail
  go_at_call 54
  refine (refGoesOn3 a b d c.toNat _ (by omega) (by omega)).mono ?_
  rintro e w' ⟨rfl, hw'⟩
  replace hw' := hw'.symm
  subst hw'
  go_wp2_with fail
  go_at_call 53
  refine (refGround bs bc g cap N (oddR { s with B := ⟨#[]⟩ }) c _ ((HR.out.setB ⟨#[]⟩).setOdd (wrap64 (s.odd + 1))) ok2.out).mono ?_
  rintro e w5 ⟨g5, cap5, N5, rfl, R5, K5, hg5⟩
  have HR5 : Hid (RefAt w5 bs bc g5 cap5 N5 (groundR (oddR { s with B := ⟨#[]⟩ }) c)) := R5
  have Hg : Hid (g5 = g ∨ w.heap.size ≤ g5) := hg5.imp id (fun q => by rw [set_size, set_size] at q; exact q)
  have K6 : Keep (fun i => i = bs ∨ i = bc ∨ i = g) w w5 := (((Keep.refl (fun i => i = bs ∨ i = bc ∨ i = g) w).setCell ⟨bs, 14, none⟩ (.string ⟨#[]⟩) (fun _ => .inl rfl)).setCell ⟨bs, 15, none⟩ (.int .i64 (wrap64 (s.odd + 1))) (fun _ => .inl rfl)).trans K5 (fun _ _ h => h)
  clear R5 hg5 K5
  go_wp2_with fail
  exact bodyPost_ret (v := .tuple #[]) (by simp [results, Tryd.results36, go_sem]) rfl (rpost HR5.out K6 Hg.out)
set_option maxRecDepth 100000 in
set_option maxHeartbeats 2000000 in
theorem oneU3put (bs bc g cap N : Nat) (s : Rs) (c : UInt8) (a b d : UInt8) (w : World) (h : RefAt w bs bc g cap N s) (ok : s.Ok) (hB : s.B = ⟨#[a, b, d]⟩) (a1 : 240 ≤ a.toNat) (a2 : a.toNat ≤ 244) (lb : 128 ≤ b.toNat) (ub : b.toNat ≤ 191) (ld : 128 ≤ d.toNat) (ud : d.toNat ≤ 191) (lc : 128 ≤ c.toNat) (uc : c.toNat ≤ 191) (hg : goesOnB [a, b, d] c.toNat = true) :
    Calls Tryd.prog 36 #[.pointer (some ⟨bs, 0, none⟩), .int .u8 c.toNat] w (RPost bs bc g w (putR { s with B := ⟨#[]⟩ } (letterR [a, b, d, c])) (.tuple #[])) := by
  have HR : Hid (RefAt w bs bc g cap N s) := h
  have Hok : Hid s.Ok := ok
  have hc256 : c.toNat < 256 := c.toNat_lt
  have fr := HR.out.free
  have f15 := HR.out.f15
  have f14 := HR.out.f14
  have l := HR.out.lt
  clear h ok
  rw [hB] at f14
  clear hB
  have e0 : (({ data := #[a, b, d] } : ByteArray)[0]'(show 0 < 3 by decide)).toNat = a.toNat := rfl
  have k27 : ((a.toNat : Int) == 27) = false := by simp; omega
  have kn27 : ((a.toNat : Int) != 27) = true := by simp; omega
  have hcv := conv_one c (w.alloc (.cells #[.int .u8 c.toNat] 5)).drew w.heap.size (cell_of_block (heap_new w _) 0)
  have hadd2 : ∀ w' : World, (Op.stringOp .add ⟨#[a, b, d]⟩ ⟨#[c]⟩).run Tryd.prog w' = .ok (.string ⟨#[a, b, d, c]⟩) w' := fun w' => run_string_add_sum (P := Tryd.prog) w' ⟨#[a, b, d]⟩ ⟨#[c]⟩ (by show 3 + 1 ≤ _; decide)
  have hl : longR a.toNat = 4 := by unfold longR; rw [if_neg (by omega), if_neg (by omega), if_pos (by omega)]
  have ok2 : Hid (Rs.Ok { s with B := ⟨#[]⟩ }) := ⟨Hok.out.w1, Hok.out.w2, Hok.out.h1, Hok.out.h2, Hok.out.x0, Hok.out.x1, Hok.out.y0, Hok.out.y1, Hok.out.t0, Hok.out.tb, Hok.out.b1, Hok.out.pd, Hok.out.wf⟩
  have hr0 : Hid (-2147483648 ≤ letterR [a, b, d, c] ∧ letterR [a, b, d, c] ≤ 2147483647) := by
    show -2147483648 ≤ letterR [a, b, d, c] ∧ letterR [a, b, d, c] ≤ 2147483647
    unfold letterR
    simp only
    omega
  go_enter Tryd.func36, Tryd.ntmps36
  go_wp2_with fail
  go_at_call 54
  refine (refGoesOn3 a b d c.toNat _ (by omega) (by omega)).mono ?_
  rintro e w' ⟨rfl, hw'⟩
  replace hw' := hw'.symm
  subst hw'
  go_wp2_with fail
  go_region
  all_goals
    have R2 : RefAt ((w.setCell ⟨bs, 14, none⟩ (.string ⟨#[a, b, d, c]⟩)).alloc (.cells #[.int .u8 c.toNat] 5)).drew bs bc g cap N { s with B := ⟨#[a, b, d, c]⟩ } := ((HR.out.setB ⟨#[a, b, d, c]⟩).below ((Below.refl _ _).alloc (Nat.le_refl _) _)).drew
    have K2 : Keep (fun i => i = bs ∨ i = bc ∨ i = g) w ((w.setCell ⟨bs, 14, none⟩ (.string ⟨#[a, b, d, c]⟩)).alloc (.cells #[.int .u8 c.toNat] 5)).drew := (((Keep.refl _ w).setCell ⟨bs, 14, none⟩ _ (fun _ => .inl rfl)).alloc _).drew
    generalize ((w.setCell ⟨bs, 14, none⟩ (.string ⟨#[a, b, d, c]⟩)).alloc (.cells #[.int .u8 c.toNat] 5)).drew = w2 at *
    have HR2 : Hid (RefAt w2 bs bc g cap N { s with B := ⟨#[a, b, d, c]⟩ }) := R2
    have g14 : w2.cell? ⟨bs, 14, none⟩ = some (.string ⟨#[a, b, d, c]⟩) := R2.f14
    have gfr := R2.free
    have e9 : (({ data := #[a, b, d, c] } : ByteArray)[0]'(show 0 < 4 by decide)).toNat = a.toNat := rfl
    clear R2 hcv hadd2 f14 fr f15 HR
    go_wp2_with fail
    go_quiet ((go_at_call 55; exact Calls.quiet_of_same (refLong _ _ (by omega) (by omega))))
    have HR3 : Hid (RefAt (w2.drewN nq) bs bc g cap N { s with B := ⟨#[a, b, d, c]⟩ }) := HR2.out.drewN nq
    have K3 : Keep (fun i => i = bs ∨ i = bc ∨ i = g) w (w2.drewN nq) := K2.drewN nq
    generalize w2.drewN nq = w3 at *
    have h14 : w3.cell? ⟨bs, 14, none⟩ = some (.string ⟨#[a, b, d, c]⟩) := HR3.out.f14
    have hfr := HR3.out.free
    clear g14 gfr HR2 K2
    go_wp2_with fail
    go_at_call 56
    refine (refLetter4 a b d c _ a1 a2 lb ub ld ud lc uc).mono ?_
    rintro e w' ⟨rfl, hw'⟩
    replace hw' := hw'.symm
    subst hw'
    generalize hle : letterR [a, b, d, c] = r at *
    go_wp2_with fail
    go_at_call 57
    refine (refPut bs bc g cap N { s with B := ⟨#[]⟩ } r _ (HR3.out.setB ⟨#[]⟩) ok2.out hr0.out.1 hr0.out.2).mono ?_
    rintro e w5 ⟨g5, cap5, N5, rfl, R5, K5, hg5⟩
    have HR5 : Hid (RefAt w5 bs bc g5 cap5 N5 (putR { s with B := ⟨#[]⟩ } r)) := R5
    have sz3 := K3.size
    have Hg : Hid (g5 = g ∨ w.heap.size ≤ g5) := hg5.imp id (fun q => by rw [set_size] at q; omega)
    have K6 : Keep (fun i => i = bs ∨ i = bc ∨ i = g) w w5 := (K3.setCell ⟨bs, 14, none⟩ (.string ⟨#[]⟩) (fun _ => .inl rfl)).trans K5 (fun _ _ h => h)
    clear R5 hg5 K5 hle
    go_wp2_with fail
    go_end0
    exact rpost HR5.out K6 Hg.out
end Go.Proofs.YtknhohbepkapdaaDoor

/- The document's screen: one, Feed. -/
namespace Go.Proofs.YtknhohbepkapdaaDoor
open Go.RowKit
attribute [local go_sem ↓] Go.wp_at_zero Go.wp_at_succ
theorem refOne (bs bc g cap N : Nat) (s : Rs) (c : UInt8) (w : World) (h : RefAt w bs bc g cap N s) (ok : s.Ok) (hB : BOk s.B) (hb : s.B.size ≤ 100000000000) :
    Calls Tryd.prog 36 #[.pointer (some ⟨bs, 0, none⟩), .int .u8 c.toNat] w (RPost bs bc g w (oneR s c) (.tuple #[])) := by
  unfold oneR
  have ne27 : ∀ a : UInt8, 194 ≤ a.toNat → a ≠ 27 := fun a h q => by rw [q] at h; exact absurd h (by decide)
  rcases hB with e | e | ⟨l, e⟩ | ⟨a, e, a1, a2⟩ | ⟨a, b, e, a1, a2, b1, b2⟩ | ⟨a, b, d, e, a1, a2, b1, b2, d1, d2⟩
  · rw [e]; exact one0 bs bc g cap N s c w h ok e
  · rw [e]
    show Calls _ _ _ _ (RPost bs bc g w (escR s c) (.tuple #[]))
    unfold escR
    by_cases c1 : (c.toNat : Int) = 91
    · rw [if_pos c1]; exact oneE91 bs bc g cap N s c w h e c1
    · rw [if_neg c1]
      by_cases c2 : (c.toNat : Int) = 27
      · rw [if_pos c2]; exact oneE27 bs bc g cap N s c w h e c2
      · rw [if_neg c2]; exact oneEo bs bc g cap N s c w h e c1 c2
  · have hsz : s.B.size = l.length + 2 := by rw [e, bsize]; rfl
    rw [e] at hb
    rw [e]
    show Calls _ _ _ _ (RPost bs bc g w (inSeqR s l c) (.tuple #[]))
    have h2 : 2 ≤ (⟨(27 :: 91 :: l).toArray⟩ : ByteArray).size := by rw [bsize]; simp
    unfold inSeqR
    by_cases c1 : (c.toNat : Int) = 27
    · rw [if_pos c1]; exact oneS27 bs bc g cap N s c ⟨(27 :: 91 :: l).toArray⟩ w h e h2 rfl c1
    · rw [if_neg c1]
      by_cases c2 : 64 ≤ (c.toNat : Int) ∧ (c.toNat : Int) ≤ 126
      · rw [if_pos c2]
        have ex : (⟨(27 :: 91 :: l).toArray⟩ : ByteArray).extract 2 (⟨(27 :: 91 :: l).toArray⟩ : ByteArray).size = ⟨l.toArray⟩ := by
          apply Go.WideShapes.bytes_inj
          rw [Lib.extract_data]
          simp [ByteArray.size]
        rw [← ex]
        exact oneSd bs bc g cap N s c ⟨(27 :: 91 :: l).toArray⟩ w h ok e h2 rfl hb c2.1 c2.2
      · rw [if_neg c2]
        have ea : (⟨(27 :: 91 :: l).toArray⟩ : ByteArray) ++ ⟨#[c]⟩ = ⟨(27 :: 91 :: l ++ [c]).toArray⟩ := by
          apply Go.WideShapes.bytes_inj
          simp
        rw [← ea]
        exact oneSo bs bc g cap N s c ⟨(27 :: 91 :: l).toArray⟩ w h e h2 rfl hb c1 (by omega)
  · rw [e]
    show Calls _ _ _ _ (RPost bs bc g w (if a = 27 then _ else letR s a [] c) (.tuple #[]))
    rw [if_neg (ne27 a a1)]
    unfold letR
    cases hg : goesOnB [a] c.toNat with
    | false => rw [if_pos rfl]; exact oneU1no bs bc g cap N s c a w h ok e a1 a2 hg
    | true =>
      have := goesOn_lo hg
      rw [if_neg (by decide)]
      by_cases hl : longR a.toNat = 2
      · rw [if_pos (show longR (a.toNat : Int) = ((([] : List UInt8).length + 2 : Nat) : Int) from hl)]
        rcases longR_val a.toNat with q | q | q | q
        · exact oneU1put bs bc g cap N s c a w h ok e a1 (by omega) this.1 this.2 hg
        all_goals omega
      · rw [if_neg (show ¬ longR (a.toNat : Int) = ((([] : List UInt8).length + 2 : Nat) : Int) from hl)]; exact oneU1more bs bc g cap N s c a w h ok e a1 a2 hg hl
  · rw [e]
    show Calls _ _ _ _ (RPost bs bc g w (if a = 27 then _ else letR s a [b] c) (.tuple #[]))
    rw [if_neg (ne27 a (by omega))]
    unfold letR
    cases hg : goesOnB [a, b] c.toNat with
    | false => rw [if_pos rfl]; exact oneU2no bs bc g cap N s c a b w h ok e (by omega) a2 hg
    | true =>
      have := goesOn_lo hg
      rw [if_neg (by decide)]
      by_cases hl : longR a.toNat = 3
      · rw [if_pos (show longR (a.toNat : Int) = ((([b] : List UInt8).length + 2 : Nat) : Int) from hl)]
        rcases longR_val a.toNat with q | q | q | q
        · omega
        · exact oneU2put bs bc g cap N s c a b w h ok e a1 (by omega) b1 b2 this.1 this.2 hg
        all_goals omega
      · rw [if_neg (show ¬ longR (a.toNat : Int) = ((([b] : List UInt8).length + 2 : Nat) : Int) from hl)]; exact oneU2more bs bc g cap N s c a b w h ok e (by omega) a2 hg hl
  · rw [e]
    show Calls _ _ _ _ (RPost bs bc g w (if a = 27 then _ else letR s a [b, d] c) (.tuple #[]))
    rw [if_neg (ne27 a (by omega))]
    unfold letR
    cases hg : goesOnB [a, b, d] c.toNat with
    | false => rw [if_pos rfl]; exact oneU3no bs bc g cap N s c a b d w h ok e (by omega) a2 hg
    | true =>
      have := goesOn_lo hg
      rw [if_neg (by decide)]
      have hl : longR a.toNat = 4 := by
        rcases longR_val a.toNat with q | q | q | q
        · omega
        · omega
        · exact q.1
        · omega
      rw [if_pos (show longR (a.toNat : Int) = ((([b, d] : List UInt8).length + 2 : Nat) : Int) from hl)]
      exact oneU3put bs bc g cap N s c a b d w h ok e a1 a2 b1 b2 d1 d2 this.1 this.2 hg
/-- Feed at no screen does nothing. -/
theorem refFeedNil (b : ByteArray) (w : World) :
    Calls Tryd.prog 21 #[.pointer none, .string b] w fun e w' => e = .returned (.tuple #[]) ∧ w' = w := by
  by_cases hz : 0 < b.size
  · have hz' : (0 : Int) < (b.size : Int) := by omega
    go_enter Tryd.func21, Tryd.ntmps21
    go_wp2_with fail
    refine wp_loop_rounds 1 ?_
    rw [rounds_succ]
    go_wp2_with fail
    go_end0
    exact ⟨rfl, rfl⟩
  · have hz' : (b.size : Int) ≤ 0 := by omega
    go_enter Tryd.func21, Tryd.ntmps21
    go_wp2_with fail
    refine wp_loop_rounds 1 ?_
    rw [rounds_succ]
    go_wp2_with fail
    go_end0
    exact ⟨rfl, rfl⟩
set_option maxHeartbeats 2000000 in
theorem refFeed (bs bc g cap N : Nat) (s : Rs) (b : ByteArray) (w : World) (h : RefAt w bs bc g cap N s) (ok : s.Ok) (hB : BOk s.B) (hb : s.B.size + b.size ≤ 100000000000) :
    Calls Tryd.prog 21 #[.pointer (some ⟨bs, 0, none⟩), .string b] w (RPost bs bc g w (feedR s b.data.toList) (.tuple #[])) := by
  have HR : Hid (RefAt w bs bc g cap N s) := h
  have Hok : Hid s.Ok := ok
  have HB : Hid (BOk s.B) := hB
  have bl := h.lt
  have cl := h.cels.lt
  clear h ok hB
  go_enter Tryd.func21, Tryd.ntmps21
  go_wp2_with fail
  go_loopw [4] (fun i w' => ∃ (k gc cc Nc : Nat), k ≤ b.size ∧ i = .int .i64 k ∧ RefAt w' bs bc gc cc Nc (feedR s (b.data.toList.take k)) ∧ Keep (fun i => i = bs ∨ i = bc ∨ i = g) w w' ∧ (gc = g ∨ w.heap.size ≤ gc) ∧ (feedR s (b.data.toList.take k)).Ok ∧ BOk (feedR s (b.data.toList.take k)).B ∧ (feedR s (b.data.toList.take k)).B.size ≤ s.B.size + k) (fun i _ => b.size - (intOf i).toNat)
  case atStart => exact ⟨0, g, cap, N, by omega, rfl, HR.out, Keep.refl _ _, .inl rfl, Hok.out, HB.out, Nat.le_refl _⟩
  case round =>
    obtain ⟨k, gc, cc, Nc, hk, rfl, hR, hK, hg, hO, hB, hS⟩ := hrel
    have HR5 : Hid (RefAt wr bs bc gc cc Nc (feedR s (b.data.toList.take k))) := hR
    have Hg5 : Hid (gc = g ∨ w.heap.size ≤ gc) := hg
    have HO5 : Hid (feedR s (b.data.toList.take k)).Ok := hO
    have HB5 : Hid (BOk (feedR s (b.data.toList.take k)).B) := hB
    have HS5 : Hid ((feedR s (b.data.toList.take k)).B.size ≤ s.B.size + k) := hS
    clear hR hg hO hB hS HR Hok HB
    by_cases hlt : k < b.size
    · have hnx : feedR s (b.data.toList.take (k + 1)) = oneR (feedR s (b.data.toList.take k)) b[k] := by
        unfold feedR
        rw [take_snoc b k hlt, List.foldl_append]; rfl
      have Hnx : Hid (feedR s (b.data.toList.take (k + 1)) = oneR (feedR s (b.data.toList.take k)) b[k]) := hnx
      clear hnx
      have hlt' : (k : Int) < (b.size : Int) := by omega
      go_wp2_with fail
      go_at_call 36
      refine (refOne bs bc gc cc Nc (feedR s (b.data.toList.take k)) b[k] _ HR5.out HO5.out HB5.out (by have := HS5.out; omega)).mono ?_
      rintro e w5 ⟨g5, cap5, N5, rfl, R5, K5, hg5⟩
      have HR6 : Hid (RefAt w5 bs bc g5 cap5 N5 (feedR s (b.data.toList.take (k + 1)))) := by show RefAt w5 bs bc g5 cap5 N5 (feedR s (b.data.toList.take (k + 1))); rw [Hnx.out]; exact R5
      have K6 : Keep (fun i => i = bs ∨ i = bc ∨ i = g) w w5 := hK.trans K5 (fun i hi hj => by
        have := Hg5.out
        rcases hj with q1 | q1 | q1
        · exact .inl q1
        · exact .inr (.inl q1)
        · rcases this with q2 | q2
          · exact .inr (.inr (q1.trans q2))
          · omega)
      have Hg6 : Hid (g5 = g ∨ w.heap.size ≤ g5) := by
        show g5 = g ∨ w.heap.size ≤ g5
        have := Hg5.out
        have := hK.size
        omega
      have HO6 : Hid (feedR s (b.data.toList.take (k + 1))).Ok := by show (feedR s (b.data.toList.take (k + 1))).Ok; rw [Hnx.out]; exact HO5.out.one _
      have HB6 : Hid (BOk (feedR s (b.data.toList.take (k + 1))).B) := by show BOk (feedR s (b.data.toList.take (k + 1))).B; rw [Hnx.out]; exact one_B HB5.out _
      have HS6 : Hid ((feedR s (b.data.toList.take (k + 1))).B.size ≤ s.B.size + (k + 1)) := by
        show (feedR s (b.data.toList.take (k + 1))).B.size ≤ s.B.size + (k + 1)
        rw [Hnx.out]
        have := one_size HB5.out b[k]
        have := HS5.out
        omega
      clear R5 K5 hg5
      go_wp2_with fail
      go_roundw
      case rel => exact ⟨k + 1, g5, cap5, N5, by omega, by go_num, HR6.out, K6, Hg6.out, HO6.out, HB6.out, HS6.out⟩
      case measure => simp [intOf]; omega
    · have hke : Hid (b.data.toList.take k = b.data.toList) := List.take_of_length_le (by show b.size ≤ k; omega)
      have hlt' : (b.size : Int) ≤ (k : Int) := by omega
      go_wp2_with fail
      go_end0
      have R9 : RefAt wr bs bc gc cc Nc (feedR s b.data.toList) := by rw [← hke.out]; exact HR5.out
      exact rpost R9 hK Hg5.out
end Go.Proofs.YtknhohbepkapdaaDoor

/- The statement with the document's answer: a pair is fed. -/
namespace Go.Proofs.YtknhohbepkapdaaDoor
open Go.RowKit
attribute [local go_sem ↓] Go.wp_at_zero Go.wp_at_succ
/-- The argument of feed. -/
abbrev feedAgg (on sz W H lk : Int) (tx : ByteArray) : Value := .agg #[.int .i64 on, .int .i64 sz, .int .i64 W, .int .i64 H, .int .i64 lk, .string tx]
def FdAt (w : World) (b : Nat) (on sz W H lk : Int) (tx : ByteArray) : Prop := w.heap[b]? = some (.cells #[.int .i64 on, .int .i64 sz, .int .i64 W, .int .i64 H, .int .i64 lk, .string tx] 32)
section
variable {w w' : World} {b : Nat} {on sz W H lk : Int} {tx : ByteArray}
theorem FdAt.keep {F : Nat → Prop} (h : FdAt w b on sz W H lk tx) (k : Keep F w w') (hF : ¬ F b) : FdAt w' b on sz W H lk tx := by
  unfold FdAt at *; rw [k.block _ (Array.getElem?_eq_some_iff.1 h).1 hF]; exact h
theorem FdAt.below (h : FdAt w b on sz W H lk tx) (hb : Below w.heap.size w w') : FdAt w' b on sz W H lk tx := h.keep (Keep.below (fun _ => False) hb) id
theorem FdAt.lt (h : FdAt w b on sz W H lk tx) : b < w.heap.size := (Array.getElem?_eq_some_iff.1 h).1
theorem FdAt.c1 (h : FdAt w b on sz W H lk tx) : w.cell? ⟨b, 1, none⟩ = some (.int .i64 sz) := cell_of_block h 1
theorem FdAt.c2 (h : FdAt w b on sz W H lk tx) : w.cell? ⟨b, 2, none⟩ = some (.int .i64 W) := cell_of_block h 2
theorem FdAt.c3 (h : FdAt w b on sz W H lk tx) : w.cell? ⟨b, 3, none⟩ = some (.int .i64 H) := cell_of_block h 3
theorem FdAt.c4 (h : FdAt w b on sz W H lk tx) : w.cell? ⟨b, 4, none⟩ = some (.int .i64 lk) := cell_of_block h 4
theorem FdAt.c5 (h : FdAt w b on sz W H lk tx) : w.cell? ⟨b, 5, none⟩ = some (.string tx) := cell_of_block h 5
end
theorem PpAt.keep {F : Nat → Prop} {w w' : World} {b : Nat} {x y : Option Addr} (h : PpAt w b x y) (k : Keep F w w') (hF : ¬ F b) : PpAt w' b x y := by
  unfold PpAt at *; rw [k.block _ (Array.getElem?_eq_some_iff.1 h).1 hF]; exact h
theorem RefAt.keep {F : Nat → Prop} {w w' : World} {bs bc g cap N : Nat} {s : Rs} (h : RefAt w bs bc g cap N s) (k : Keep F w w') (h1 : ¬ F bs) (h2 : ¬ F bc) (h3 : ¬ F g) : RefAt w' bs bc g cap N s :=
  h.same (k.block _ h.lt h1) (k.block _ h.cels.lt h2) (k.block _ h.cels.glt h3)
set_option maxRecDepth 10000 in
set_option maxHeartbeats 4000000 in
theorem lFeedNilA0 (on sz W H lk : Int) (tx : ByteArray) (w : World) (hz : (sz.tmod 2 == 0) = true) (hl : (lk.tmod 2 == 0) = true) :
    Calls Tryd.prog 8 #[.agg #[.pointer none, .pointer none], feedAgg on sz W H lk tx] w fun e w' => e = .returned (.bool true) ∧ Below w.heap.size w w' := by
  have hz' : (sz.tmod 2 != 0) = !true := by simp only [bne, hz]
  have hl' : (lk.tmod 2 != 0) = !true := by simp only [bne, hl]
  go_enter Tryd.func8, Tryd.ntmps8
  go_wp2_with (first | (go_at_call 15; refine (cResizeNil _ _ _).mono ?_; rintro e w' ⟨rfl, hw'⟩; replace hw' := hw'.symm; subst hw') | (go_at_call 20; refine (refResizeNil _ _ _).mono ?_; rintro e w' ⟨rfl, hw'⟩; replace hw' := hw'.symm; subst hw') | (go_at_call 12; refine (cFeedNil _ _).mono ?_; rintro e w' ⟨rfl, hw'⟩; replace hw' := hw'.symm; subst hw') | (go_at_call 21; refine (refFeedNil _ _).mono ?_; rintro e w' ⟨rfl, hw'⟩; replace hw' := hw'.symm; subst hw'))
  go_ret
  exact ⟨rfl, ((Below.refl _ _).alloc (Nat.le_refl _) _).alloc (by simp) _⟩
set_option maxRecDepth 10000 in
set_option maxHeartbeats 4000000 in
theorem lFeedNilA1 (on sz W H lk : Int) (tx : ByteArray) (w : World) (hz : (sz.tmod 2 == 0) = true) (hl : (lk.tmod 2 == 0) = false) :
    Calls Tryd.prog 8 #[.agg #[.pointer none, .pointer none], feedAgg on sz W H lk tx] w fun e w' => e = .returned (.bool true) ∧ Below w.heap.size w w' := by
  have hz' : (sz.tmod 2 != 0) = !true := by simp only [bne, hz]
  have hl' : (lk.tmod 2 != 0) = !false := by simp only [bne, hl]
  go_enter Tryd.func8, Tryd.ntmps8
  go_wp2_with (first | (go_at_call 15; refine (cResizeNil _ _ _).mono ?_; rintro e w' ⟨rfl, hw'⟩; replace hw' := hw'.symm; subst hw') | (go_at_call 20; refine (refResizeNil _ _ _).mono ?_; rintro e w' ⟨rfl, hw'⟩; replace hw' := hw'.symm; subst hw') | (go_at_call 12; refine (cFeedNil _ _).mono ?_; rintro e w' ⟨rfl, hw'⟩; replace hw' := hw'.symm; subst hw') | (go_at_call 21; refine (refFeedNil _ _).mono ?_; rintro e w' ⟨rfl, hw'⟩; replace hw' := hw'.symm; subst hw'))
  go_at_call 9
  refine (lLook (B := none) (x := none) (y := none) ⟨rfl, rfl⟩).mono ?_
  rintro e w' ⟨rfl, b⟩
  go_wp2_with fail
  go_ret
  exact ⟨rfl, (((Below.refl _ _).alloc (Nat.le_refl _) _).alloc (by simp) _).trans (b.mono (by simp; omega))⟩
set_option maxRecDepth 10000 in
set_option maxHeartbeats 4000000 in
theorem lFeedNilB0 (on sz W H lk : Int) (tx : ByteArray) (w : World) (hz : (sz.tmod 2 == 0) = false) (hl : (lk.tmod 2 == 0) = true) :
    Calls Tryd.prog 8 #[.agg #[.pointer none, .pointer none], feedAgg on sz W H lk tx] w fun e w' => e = .returned (.bool true) ∧ Below w.heap.size w w' := by
  have hz' : (sz.tmod 2 != 0) = !false := by simp only [bne, hz]
  have hl' : (lk.tmod 2 != 0) = !true := by simp only [bne, hl]
  go_enter Tryd.func8, Tryd.ntmps8
  go_wp2_with (first | (go_at_call 15; refine (cResizeNil _ _ _).mono ?_; rintro e w' ⟨rfl, hw'⟩; replace hw' := hw'.symm; subst hw') | (go_at_call 20; refine (refResizeNil _ _ _).mono ?_; rintro e w' ⟨rfl, hw'⟩; replace hw' := hw'.symm; subst hw') | (go_at_call 12; refine (cFeedNil _ _).mono ?_; rintro e w' ⟨rfl, hw'⟩; replace hw' := hw'.symm; subst hw') | (go_at_call 21; refine (refFeedNil _ _).mono ?_; rintro e w' ⟨rfl, hw'⟩; replace hw' := hw'.symm; subst hw'))
  go_ret
  exact ⟨rfl, ((Below.refl _ _).alloc (Nat.le_refl _) _).alloc (by simp) _⟩
set_option maxRecDepth 10000 in
set_option maxHeartbeats 4000000 in
theorem lFeedNilB1 (on sz W H lk : Int) (tx : ByteArray) (w : World) (hz : (sz.tmod 2 == 0) = false) (hl : (lk.tmod 2 == 0) = false) :
    Calls Tryd.prog 8 #[.agg #[.pointer none, .pointer none], feedAgg on sz W H lk tx] w fun e w' => e = .returned (.bool true) ∧ Below w.heap.size w w' := by
  have hz' : (sz.tmod 2 != 0) = !false := by simp only [bne, hz]
  have hl' : (lk.tmod 2 != 0) = !false := by simp only [bne, hl]
  go_enter Tryd.func8, Tryd.ntmps8
  go_wp2_with (first | (go_at_call 15; refine (cResizeNil _ _ _).mono ?_; rintro e w' ⟨rfl, hw'⟩; replace hw' := hw'.symm; subst hw') | (go_at_call 20; refine (refResizeNil _ _ _).mono ?_; rintro e w' ⟨rfl, hw'⟩; replace hw' := hw'.symm; subst hw') | (go_at_call 12; refine (cFeedNil _ _).mono ?_; rintro e w' ⟨rfl, hw'⟩; replace hw' := hw'.symm; subst hw') | (go_at_call 21; refine (refFeedNil _ _).mono ?_; rintro e w' ⟨rfl, hw'⟩; replace hw' := hw'.symm; subst hw'))
  go_at_call 9
  refine (lLook (B := none) (x := none) (y := none) ⟨rfl, rfl⟩).mono ?_
  rintro e w' ⟨rfl, b⟩
  go_wp2_with fail
  go_ret
  exact ⟨rfl, (((Below.refl _ _).alloc (Nat.le_refl _) _).alloc (by simp) _).trans (b.mono (by simp; omega))⟩
/-- What feeding a pair leaves. -/
def FPost (pc bs bg g rs rc rg : Nat) (s : Rs) (tx : ByteArray) (w : World) (e : Ending) (w' : World) : Prop :=
  ∃ g' N' rg' cap' M' s', e = .returned (.bool true) ∧ CsAt w' pc bs bg g' N' s' ∧ RefAt w' rs rc rg' cap' M' s' ∧ BOk s'.B ∧ Keep (fun i => i = bs ∨ i = bg ∨ i = g ∨ i = rs ∨ i = rc ∨ i = rg) w w' ∧ (g' = g ∨ w.heap.size ≤ g') ∧ (rg' = rg ∨ w.heap.size ≤ rg') ∧ g' ≠ rg' ∧ s'.B.size ≤ s.B.size + tx.size
theorem feed_size (l : List UInt8) : ∀ {s : Rs}, BOk s.B → (feedR s l).B.size ≤ s.B.size + l.length ∧ BOk (feedR s l).B := by
  induction l with
  | nil => intro s h; exact ⟨Nat.le_refl _, h⟩
  | cons c r ih =>
    intro s h
    have a := one_size h c
    have b := ih (one_B h c)
    refine ⟨?_, b.2⟩
    have := b.1
    show (feedR (oneR s c) r).B.size ≤ _
    simp only [List.length_cons]
    omega
theorem sepG {a b c g g1 n : Nat} (h : ¬ (a = b ∨ a = c ∨ a = g)) (hg : g1 = g ∨ n ≤ g1) (ha : a < n) : ¬ (a = b ∨ a = c ∨ a = g1) := by
  rcases hg with rfl | hg
  · exact h
  · rintro (q | q | q)
    · exact h (Or.inl q)
    · exact h (Or.inr (Or.inl q))
    · omega
theorem sepF {a b c g g1 n : Nat} (h : ¬ (g = a ∨ g = b ∨ g = c)) (hg : g1 = g ∨ n ≤ g1) (ha : a < n) (hb : b < n) (hc : c < n) : ¬ (g1 = a ∨ g1 = b ∨ g1 = c) := by
  rcases hg with rfl | hg
  · exact h
  · omega
theorem neGR {a b g g1 r r1 n m : Nat} (h : ¬ (g = a ∨ g = b ∨ g = r)) (hg : g1 = g ∨ n ≤ g1) (hr : r1 = r ∨ m ≤ r1) (hm : g1 < m) (hn : r < n) : g1 ≠ r1 := by
  rcases hr with rfl | hr
  · rcases hg with rfl | hg
    · exact fun e => h (Or.inr (Or.inr e))
    · omega
  · omega
theorem sepQ {b c g g1 r r1 n : Nat} (h : ¬ (r = b ∨ r = c ∨ r = g)) (hr : r1 = r ∨ n ≤ r1) (hb : b < n) (hc : c < n) (hne : g1 ≠ r1) : ¬ (r1 = b ∨ r1 = c ∨ r1 = g1) := by
  rcases hr with rfl | hr
  · rintro (q | q | q)
    · exact h (Or.inl q)
    · exact h (Or.inr (Or.inl q))
    · exact hne q.symm
  · rintro (q | q | q)
    · omega
    · omega
    · exact hne q.symm
theorem sepS {a b g g1 r r1 n : Nat} (h : ¬ (g = a ∨ g = b ∨ g = r)) (hg : g1 = g ∨ n ≤ g1) (ha : a < n) (hb : b < n) (hne : g1 ≠ r1) : ¬ (g1 = a ∨ g1 = b ∨ g1 = r1) := by
  rcases hg with rfl | hg
  · rintro (q | q | q)
    · exact h (Or.inl q)
    · exact h (Or.inr (Or.inl q))
    · exact hne q
  · rintro (q | q | q)
    · omega
    · omega
    · exact hne q
theorem neG2 {g r r2 m : Nat} (h : g ≠ r) (hr : r2 = r ∨ m ≤ r2) (hm : g < m) : g ≠ r2 := by
  rcases hr with rfl | hr
  · exact h
  · omega
theorem keepP0 {i bs bg g rs rc rg : Nat} (h : i = bs ∨ i = bg ∨ i = g) : i = bs ∨ i = bg ∨ i = g ∨ i = rs ∨ i = rc ∨ i = rg := by omega
theorem keepR0 {i bs bg g rs rc rg : Nat} (h : i = rs ∨ i = rc ∨ i = rg) : i = bs ∨ i = bg ∨ i = g ∨ i = rs ∨ i = rc ∨ i = rg := by omega
theorem keepP {i n bs bg g g1 rs rc rg : Nat} (hi : i < n) (hg : g1 = g ∨ n + 2 ≤ g1) (h : i = bs ∨ i = bg ∨ i = g1) : i = bs ∨ i = bg ∨ i = g ∨ i = rs ∨ i = rc ∨ i = rg := by omega
theorem keepR {i n bs bg g rs rc rg r1 : Nat} (hi : i < n) (hr : r1 = rg ∨ n + 2 ≤ r1) (h : i = rs ∨ i = rc ∨ i = r1) : i = bs ∨ i = bg ∨ i = g ∨ i = rs ∨ i = rc ∨ i = rg := by omega
end Go.Proofs.YtknhohbepkapdaaDoor
