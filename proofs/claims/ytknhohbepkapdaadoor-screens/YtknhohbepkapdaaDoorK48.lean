/- Texts of the proof, one behind the other: RfAK. -/
import Derived.Test.YtknhohbepkapdaaDoorK47
import Derived.Laws.Concat
/- The document's screen: one, in a letter. -/
namespace Go.Proofs.YtknhohbepkapdaaDoor
open Go.RowKit
attribute [local go_sem ↓] Go.wp_at_zero Go.wp_at_succ
set_option maxRecDepth 100000 in
set_option maxHeartbeats 2000000 in
theorem oneU2no (bs bc g cap N : Nat) (s : Rs) (c : UInt8) (a b : UInt8) (w : World) (h : RefAt w bs bc g cap N s) (ok : s.Ok) (hB : s.B = ⟨#[a, b]⟩) (a1 : 194 ≤ a.toNat) (a2 : a.toNat ≤ 244) (hg : goesOnB [a, b] c.toNat = false) :
    Calls Tryd.prog 36 #[.pointer (some ⟨bs, 0, none⟩), .int .u8 c.toNat] w (RPost bs bc g w (groundR (oddR { s with B := ⟨#[]⟩ }) c) (.tuple #[])) := by
  have HR : Hid (RefAt w bs bc g cap N s) := h
  have Hok : Hid s.Ok := ok
  have hc256 : c.toNat < 256 := c.toNat_lt
  have fr := HR.out.free
  have f15 := HR.out.f15
  have f14 := HR.out.f14
  have l := HR.out.lt
  clear h ok
  rw [hB] at f14
  clear hB
  have e0 : (({ data := #[a, b] } : ByteArray)[0]'(show 0 < 2 by decide)).toNat = a.toNat := rfl
  have k27 : ((a.toNat : Int) == 27) = false := by simp; omega
  have kn27 : ((a.toNat : Int) != 27) = true := by simp; omega
  have ok2 : Hid (Rs.Ok (oddR { s with B := ⟨#[]⟩ })) := ⟨Hok.out.w1, Hok.out.w2, Hok.out.h1, Hok.out.h2, Hok.out.x0, Hok.out.x1, Hok.out.y0, Hok.out.y1, Hok.out.t0, Hok.out.tb, Hok.out.b1, Hok.out.pd, Hok.out.wf⟩
  go_enter Tryd.func36, Tryd.ntmps36
  go_wp2_with fail
  go_at_call 54
  refine (refGoesOn2 a b c.toNat _ (by omega) (by omega)).mono ?_
  rintro e w' ⟨rfl, hw'⟩
  replace hw' := hw'.symm
  subst hw'
  go_wp2_with fail
  go_at_call 53
  refine (refGround bs bc g cap N (oddR { s with B := ⟨#[]⟩ }) c _ ((HR.out.setB ⟨#[]⟩).setOdd (wrap64 (s.odd + 1))) ok2.out).mono ?_
  rintro e w5 ⟨g5, cap5, N5, rfl, R5, K5, hg5⟩
  have HR5 : Hid (RefAt w5 bs bc g5 cap5 N5 (groundR (oddR { s with B := ⟨#[]⟩ }) c)) := R5
  have Hg : Hid (g5 = g ∨ w.heap.size ≤ g5) := hg5.imp id (fun q => by rw [set_size, set_size] at q; exact q)
  have K6 : Keep (fun i => i = bs ∨ i = bc ∨ i = g) w w5 := (((Keep.refl (fun i => i = bs ∨ i = bc ∨ i = g) w).setCell ⟨bs, 14, none⟩ (.string ⟨#[]⟩) (fun _ => .inl rfl)).setCell ⟨bs, 15, none⟩ (.int .i64 (wrap64 (s.odd + 1))) (fun _ => .inl rfl)).trans K5 (fun _ _ h => h)
  clear R5 hg5 K5
  go_wp2_with fail
  exact bodyPost_ret (v := .tuple #[]) (by simp [results, Tryd.results36, go_sem]) rfl (rpost HR5.out K6 Hg.out)
set_option maxRecDepth 100000 in
set_option maxHeartbeats 2000000 in
theorem oneU2more (bs bc g cap N : Nat) (s : Rs) (c : UInt8) (a b : UInt8) (w : World) (h : RefAt w bs bc g cap N s) (ok : s.Ok) (hB : s.B = ⟨#[a, b]⟩) (a1 : 194 ≤ a.toNat) (a2 : a.toNat ≤ 244) (hg : goesOnB [a, b] c.toNat = true) (hl : longR a.toNat ≠ 3) :
    Calls Tryd.prog 36 #[.pointer (some ⟨bs, 0, none⟩), .int .u8 c.toNat] w (RPost bs bc g w ({ s with B := ⟨#[a, b, c]⟩ }) (.tuple #[])) := by
  have HR : Hid (RefAt w bs bc g cap N s) := h
  have Hok : Hid s.Ok := ok
  have hc256 : c.toNat < 256 := c.toNat_lt
  have fr := HR.out.free
  have f15 := HR.out.f15
  have f14 := HR.out.f14
  have l := HR.out.lt
  clear h ok
  rw [hB] at f14
  clear hB
  have e0 : (({ data := #[a, b] } : ByteArray)[0]'(show 0 < 2 by decide)).toNat = a.toNat := rfl
  have k27 : ((a.toNat : Int) == 27) = false := by simp; omega
  have kn27 : ((a.toNat : Int) != 27) = true := by simp; omega
  have hcv := conv_one c (w.alloc (.cells #[.int .u8 c.toNat] 5)).drew w.heap.size (cell_of_block (heap_new w _) 0)
  have hadd2 : ∀ w' : World, (Op.stringOp .add ⟨#[a, b]⟩ ⟨#[c]⟩).run Tryd.prog w' = .ok (.string ⟨#[a, b, c]⟩) w' := fun w' => run_string_add_sum (P := Tryd.prog) w' ⟨#[a, b]⟩ ⟨#[c]⟩ (by show 2 + 1 ≤ _; decide)
  have hl1 : ((3 : Int) == longR a.toNat) = false := by simp; omega
  clear hl
  go_enter Tryd.func36, Tryd.ntmps36
  go_wp2_with fail
  go_at_call 54
  refine (refGoesOn2 a b c.toNat _ (by omega) (by omega)).mono ?_
  rintro e w' ⟨rfl, hw'⟩
  replace hw' := hw'.symm
  subst hw'
  go_wp2_with fail
  go_region
  all_goals
    have R2 : RefAt ((w.setCell ⟨bs, 14, none⟩ (.string ⟨#[a, b, c]⟩)).alloc (.cells #[.int .u8 c.toNat] 5)).drew bs bc g cap N { s with B := ⟨#[a, b, c]⟩ } := ((HR.out.setB ⟨#[a, b, c]⟩).below ((Below.refl _ _).alloc (Nat.le_refl _) _)).drew
    have K2 : Keep (fun i => i = bs ∨ i = bc ∨ i = g) w ((w.setCell ⟨bs, 14, none⟩ (.string ⟨#[a, b, c]⟩)).alloc (.cells #[.int .u8 c.toNat] 5)).drew := (((Keep.refl _ w).setCell ⟨bs, 14, none⟩ _ (fun _ => .inl rfl)).alloc _).drew
    generalize ((w.setCell ⟨bs, 14, none⟩ (.string ⟨#[a, b, c]⟩)).alloc (.cells #[.int .u8 c.toNat] 5)).drew = w2 at *
    have HR2 : Hid (RefAt w2 bs bc g cap N { s with B := ⟨#[a, b, c]⟩ }) := R2
    have g14 : w2.cell? ⟨bs, 14, none⟩ = some (.string ⟨#[a, b, c]⟩) := R2.f14
    have gfr := R2.free
    have e9 : (({ data := #[a, b, c] } : ByteArray)[0]'(show 0 < 3 by decide)).toNat = a.toNat := rfl
    clear R2 hcv hadd2 f14 fr f15 HR
    go_wp2_with fail
    go_quiet ((go_at_call 55; exact Calls.quiet_of_same (refLong _ _ (by omega) (by omega))))
    have HR3 : Hid (RefAt (w2.drewN nq) bs bc g cap N { s with B := ⟨#[a, b, c]⟩ }) := HR2.out.drewN nq
    have K3 : Keep (fun i => i = bs ∨ i = bc ∨ i = g) w (w2.drewN nq) := K2.drewN nq
    generalize w2.drewN nq = w3 at *
    have h14 : w3.cell? ⟨bs, 14, none⟩ = some (.string ⟨#[a, b, c]⟩) := HR3.out.f14
    have hfr := HR3.out.free
    clear g14 gfr HR2 K2
    go_wp2_with fail
    go_end0
    exact rpost HR3.out K3 (.inl rfl)
set_option maxRecDepth 100000 in
set_option maxHeartbeats 2000000 in
theorem oneU2put (bs bc g cap N : Nat) (s : Rs) (c : UInt8) (a b : UInt8) (w : World) (h : RefAt w bs bc g cap N s) (ok : s.Ok) (hB : s.B = ⟨#[a, b]⟩) (a1 : 224 ≤ a.toNat) (a2 : a.toNat ≤ 239) (lb : 128 ≤ b.toNat) (ub : b.toNat ≤ 191) (lc : 128 ≤ c.toNat) (uc : c.toNat ≤ 191) (hg : goesOnB [a, b] c.toNat = true) :
    Calls Tryd.prog 36 #[.pointer (some ⟨bs, 0, none⟩), .int .u8 c.toNat] w (RPost bs bc g w (putR { s with B := ⟨#[]⟩ } (letterR [a, b, c])) (.tuple #[])) := by
  have HR : Hid (RefAt w bs bc g cap N s) := h
  have Hok : Hid s.Ok := ok
  have hc256 : c.toNat < 256 := c.toNat_lt
  have fr := HR.out.free
  have f15 := HR.out.f15
  have f14 := HR.out.f14
  have l := HR.out.lt
  clear h ok
  rw [hB] at f14
  clear hB
  have e0 : (({ data := #[a, b] } : ByteArray)[0]'(show 0 < 2 by decide)).toNat = a.toNat := rfl
  have k27 : ((a.toNat : Int) == 27) = false := by simp; omega
  have kn27 : ((a.toNat : Int) != 27) = true := by simp; omega
  have hcv := conv_one c (w.alloc (.cells #[.int .u8 c.toNat] 5)).drew w.heap.size (cell_of_block (heap_new w _) 0)
  have hadd2 : ∀ w' : World, (Op.stringOp .add ⟨#[a, b]⟩ ⟨#[c]⟩).run Tryd.prog w' = .ok (.string ⟨#[a, b, c]⟩) w' := fun w' => run_string_add_sum (P := Tryd.prog) w' ⟨#[a, b]⟩ ⟨#[c]⟩ (by show 2 + 1 ≤ _; decide)
  have hl : longR a.toNat = 3 := by unfold longR; rw [if_neg (by omega), if_pos (by omega)]
  have ok2 : Hid (Rs.Ok { s with B := ⟨#[]⟩ }) := ⟨Hok.out.w1, Hok.out.w2, Hok.out.h1, Hok.out.h2, Hok.out.x0, Hok.out.x1, Hok.out.y0, Hok.out.y1, Hok.out.t0, Hok.out.tb, Hok.out.b1, Hok.out.pd, Hok.out.wf⟩
  have hr0 : Hid (-2147483648 ≤ letterR [a, b, c] ∧ letterR [a, b, c] ≤ 2147483647) := by
    show -2147483648 ≤ letterR [a, b, c] ∧ letterR [a, b, c] ≤ 2147483647
    unfold letterR
    simp only
    omega
  go_enter Tryd.func36, Tryd.ntmps36
  go_wp2_with fail
  go_at_call 54
  refine (refGoesOn2 a b c.toNat _ (by omega) (by omega)).mono ?_
  rintro e w' ⟨rfl, hw'⟩
  replace hw' := hw'.symm
  subst hw'
  go_wp2_with fail
  go_region
  all_goals
    have R2 : RefAt ((w.setCell ⟨bs, 14, none⟩ (.string ⟨#[a, b, c]⟩)).alloc (.cells #[.int .u8 c.toNat] 5)).drew bs bc g cap N { s with B := ⟨#[a, b, c]⟩ } := ((HR.out.setB ⟨#[a, b, c]⟩).below ((Below.refl _ _).alloc (Nat.le_refl _) _)).drew
    have K2 : Keep (fun i => i = bs ∨ i = bc ∨ i = g) w ((w.setCell ⟨bs, 14, none⟩ (.string ⟨#[a, b, c]⟩)).alloc (.cells #[.int .u8 c.toNat] 5)).drew := (((Keep.refl _ w).setCell ⟨bs, 14, none⟩ _ (fun _ => .inl rfl)).alloc _).drew
    generalize ((w.setCell ⟨bs, 14, none⟩ (.string ⟨#[a, b, c]⟩)).alloc (.cells #[.int .u8 c.toNat] 5)).drew = w2 at *
    have HR2 : Hid (RefAt w2 bs bc g cap N { s with B := ⟨#[a, b, c]⟩ }) := R2
    have g14 : w2.cell? ⟨bs, 14, none⟩ = some (.string ⟨#[a, b, c]⟩) := R2.f14
    have gfr := R2.free
    have e9 : (({ data := #[a, b, c] } : ByteArray)[0]'(show 0 < 3 by decide)).toNat = a.toNat := rfl
    clear R2 hcv hadd2 f14 fr f15 HR
    go_wp2_with fail
    go_quiet ((go_at_call 55; exact Calls.quiet_of_same (refLong _ _ (by omega) (by omega))))
    have HR3 : Hid (RefAt (w2.drewN nq) bs bc g cap N { s with B := ⟨#[a, b, c]⟩ }) := HR2.out.drewN nq
    have K3 : Keep (fun i => i = bs ∨ i = bc ∨ i = g) w (w2.drewN nq) := K2.drewN nq
    generalize w2.drewN nq = w3 at *
    have h14 : w3.cell? ⟨bs, 14, none⟩ = some (.string ⟨#[a, b, c]⟩) := HR3.out.f14
    have hfr := HR3.out.free
    clear g14 gfr HR2 K2
    go_wp2_with fail
    go_at_call 56
    refine (refLetter3 a b c _ a1 a2 lb ub lc uc).mono ?_
    rintro e w' ⟨rfl, hw'⟩
    replace hw' := hw'.symm
    subst hw'
    generalize hle : letterR [a, b, c] = r at *
    go_wp2_with fail
    go_at_call 57
    refine (refPut bs bc g cap N { s with B := ⟨#[]⟩ } r _ (HR3.out.setB ⟨#[]⟩) ok2.out hr0.out.1 hr0.out.2).mono ?_
    rintro e w5 ⟨g5, cap5, N5, rfl, R5, K5, hg5⟩
    have HR5 : Hid (RefAt w5 bs bc g5 cap5 N5 (putR { s with B := ⟨#[]⟩ } r)) := R5
    have sz3 := K3.size
    have Hg : Hid (g5 = g ∨ w.heap.size ≤ g5) := hg5.imp id (fun q => by rw [set_size] at q; omega)
    have K6 : Keep (fun i => i = bs ∨ i = bc ∨ i = g) w w5 := (K3.setCell ⟨bs, 14, none⟩ (.string ⟨#[]⟩) (fun _ => .inl rfl)).trans K5 (fun _ _ h => h)
    clear R5 hg5 K5 hle
    go_wp2_with fail
    go_end0
    exact rpost HR5.out K6 Hg.out
set_option maxRecDepth 100000 in
set_option maxHeartbeats 2000000 in
theorem oneU3no (bs bc g cap N : Nat) (s : Rs) (c : UInt8) (a b d : UInt8) (w : World) (h : RefAt w bs bc g cap N s) (ok : s.Ok) (hB : s.B = ⟨#[a, b, d]⟩) (a1 : 194 ≤ a.toNat) (a2 : a.toNat ≤ 244) (hg : goesOnB [a, b, d] c.toNat = false) :
    Calls Tryd.prog 36 #[.pointer (some ⟨bs, 0, none⟩), .int .u8 c.toNat] w (RPost bs bc g w (groundR (oddR { s with B := ⟨#[]⟩ }) c) (.tuple #[])) := by
  have HR : Hid (RefAt w bs bc g cap N s) := h
  have Hok : Hid s.Ok := ok
  have hc256 : c.toNat < 256 := c.toNat_lt
  have fr := HR.out.free
  have f15 := HR.out.f15
  have f14 := HR.out.f14
  have l := HR.out.lt
  clear h ok
  rw [hB] at f14
  clear hB
  have e0 : (({ data := #[a, b, d] } : ByteArray)[0]'(show 0 < 3 by decide)).toNat = a.toNat := rfl
  have k27 : ((a.toNat : Int) == 27) = false := by simp; omega
  have kn27 : ((a.toNat : Int) != 27) = true := by simp; omega
  have ok2 : Hid (Rs.Ok (oddR { s with B := ⟨#[]⟩ })) := ⟨Hok.out.w1, Hok.out.w2, Hok.out.h1, Hok.out.h2, Hok.out.x0, Hok.out.x1, Hok.out.y0, Hok.out.y1, Hok.out.t0, Hok.out.tb, Hok.out.b1, Hok.out.pd, Hok.out.wf⟩
  go_enter Tryd.func36, Tryd.ntmps36
  go_wp2_with fail
  go_at_call 54
  refine (refGoesOn3 a b d c.toNat _ (by omega) (by omega)).mono ?_
  rintro e w' ⟨rfl, hw'⟩
  replace hw' := hw'.symm
  subst hw'
  go_wp2_with fail
  go_at_call 53
  refine (refGround bs bc g cap N (oddR { s with B := ⟨#[]⟩ }) c _ ((HR.out.setB ⟨#[]⟩).setOdd (wrap64 (s.odd + 1))) ok2.out).mono ?_
  rintro e w5 ⟨g5, cap5, N5, rfl, R5, K5, hg5⟩
  have HR5 : Hid (RefAt w5 bs bc g5 cap5 N5 (groundR (oddR { s with B := ⟨#[]⟩ }) c)) := R5
  have Hg : Hid (g5 = g ∨ w.heap.size ≤ g5) := hg5.imp id (fun q => by rw [set_size, set_size] at q; exact q)
  have K6 : Keep (fun i => i = bs ∨ i = bc ∨ i = g) w w5 := (((Keep.refl (fun i => i = bs ∨ i = bc ∨ i = g) w).setCell ⟨bs, 14, none⟩ (.string ⟨#[]⟩) (fun _ => .inl rfl)).setCell ⟨bs, 15, none⟩ (.int .i64 (wrap64 (s.odd + 1))) (fun _ => .inl rfl)).trans K5 (fun _ _ h => h)
  clear R5 hg5 K5
  go_wp2_with fail
  exact bodyPost_ret (v := .tuple #[]) (by simp [results, Tryd.results36, go_sem]) rfl (rpost HR5.out K6 Hg.out)
set_option maxRecDepth 100000 in
set_option maxHeartbeats 2000000 in
theorem oneU3put (bs bc g cap N : Nat) (s : Rs) (c : UInt8) (a b d : UInt8) (w : World) (h : RefAt w bs bc g cap N s) (ok : s.Ok) (hB : s.B = ⟨#[a, b, d]⟩) (a1 : 240 ≤ a.toNat) (a2 : a.toNat ≤ 244) (lb : 128 ≤ b.toNat) (ub : b.toNat ≤ 191) (ld : 128 ≤ d.toNat) (ud : d.toNat ≤ 191) (lc : 128 ≤ c.toNat) (uc : c.toNat ≤ 191) (hg : goesOnB [a, b, d] c.toNat = true) :
    Calls Tryd.prog 36 #[.pointer (some ⟨bs, 0, none⟩), .int .u8 c.toNat] w (RPost bs bc g w (putR { s with B := ⟨#[]⟩ } (letterR [a, b, d, c])) (.tuple #[])) := by
  have HR : Hid (RefAt w bs bc g cap N s) := h
  have Hok : Hid s.Ok := ok
  have hc256 : c.toNat < 256 := c.toNat_lt
  have fr := HR.out.free
  have f15 := HR.out.f15
  have f14 := HR.out.f14
  have l := HR.out.lt
  clear h ok
  rw [hB] at f14
  clear hB
  have e0 : (({ data := #[a, b, d] } : ByteArray)[0]'(show 0 < 3 by decide)).toNat = a.toNat := rfl
  have k27 : ((a.toNat : Int) == 27) = false := by simp; omega
  have kn27 : ((a.toNat : Int) != 27) = true := by simp; omega
  have hcv := conv_one c (w.alloc (.cells #[.int .u8 c.toNat] 5)).drew w.heap.size (cell_of_block (heap_new w _) 0)
  have hadd2 : ∀ w' : World, (Op.stringOp .add ⟨#[a, b, d]⟩ ⟨#[c]⟩).run Tryd.prog w' = .ok (.string ⟨#[a, b, d, c]⟩) w' := fun w' => run_string_add_sum (P := Tryd.prog) w' ⟨#[a, b, d]⟩ ⟨#[c]⟩ (by show 3 + 1 ≤ _; decide)
  have hl : longR a.toNat = 4 := by unfold longR; rw [if_neg (by omega), if_neg (by omega), if_pos (by omega)]
  have ok2 : Hid (Rs.Ok { s with B := ⟨#[]⟩ }) := ⟨Hok.out.w1, Hok.out.w2, Hok.out.h1, Hok.out.h2, Hok.out.x0, Hok.out.x1, Hok.out.y0, Hok.out.y1, Hok.out.t0, Hok.out.tb, Hok.out.b1, Hok.out.pd, Hok.out.wf⟩
  have hr0 : Hid (-2147483648 ≤ letterR [a, b, d, c] ∧ letterR [a, b, d, c] ≤ 2147483647) := by
    show -2147483648 ≤ letterR [a, b, d, c] ∧ letterR [a, b, d, c] ≤ 2147483647
    unfold letterR
    simp only
    omega
  go_enter Tryd.func36, Tryd.ntmps36
  go_wp2_with fail
  go_at_call 54
  refine (refGoesOn3 a b d c.toNat _ (by omega) (by omega)).mono ?_
  rintro e w' ⟨rfl, hw'⟩
  replace hw' := hw'.symm
  subst hw'
  go_wp2_with fail
  go_region
  all_goals
    have R2 : RefAt ((w.setCell ⟨bs, 14, none⟩ (.string ⟨#[a, b, d, c]⟩)).alloc (.cells #[.int .u8 c.toNat] 5)).drew bs bc g cap N { s with B := ⟨#[a, b, d, c]⟩ } := ((HR.out.setB ⟨#[a, b, d, c]⟩).below ((Below.refl _ _).alloc (Nat.le_refl _) _)).drew
    have K2 : Keep (fun i => i = bs ∨ i = bc ∨ i = g) w ((w.setCell ⟨bs, 14, none⟩ (.string ⟨#[a, b, d, c]⟩)).alloc (.cells #[.int .u8 c.toNat] 5)).drew := (((Keep.refl _ w).setCell ⟨bs, 14, none⟩ _ (fun _ => .inl rfl)).alloc _).drew
    generalize ((w.setCell ⟨bs, 14, none⟩ (.string ⟨#[a, b, d, c]⟩)).alloc (.cells #[.int .u8 c.toNat] 5)).drew = w2 at *
    have HR2 : Hid (RefAt w2 bs bc g cap N { s with B := ⟨#[a, b, d, c]⟩ }) := R2
    have g14 : w2.cell? ⟨bs, 14, none⟩ = some (.string ⟨#[a, b, d, c]⟩) := R2.f14
    have gfr := R2.free
    have e9 : (({ data := #[a, b, d, c] } : ByteArray)[0]'(show 0 < 4 by decide)).toNat = a.toNat := rfl
    clear R2 hcv hadd2 f14 fr f15 HR
    go_wp2_with fail
    go_quiet ((go_at_call 55; exact Calls.quiet_of_same (refLong _ _ (by omega) (by omega))))
    have HR3 : Hid (RefAt (w2.drewN nq) bs bc g cap N { s with B := ⟨#[a, b, d, c]⟩ }) := HR2.out.drewN nq
    have K3 : Keep (fun i => i = bs ∨ i = bc ∨ i = g) w (w2.drewN nq) := K2.drewN nq
    generalize w2.drewN nq = w3 at *
    have h14 : w3.cell? ⟨bs, 14, none⟩ = some (.string ⟨#[a, b, d, c]⟩) := HR3.out.f14
    have hfr := HR3.out.free
    clear g14 gfr HR2 K2
    go_wp2_with fail
    go_at_call 56
    refine (refLetter4 a b d c _ a1 a2 lb ub ld ud lc uc).mono ?_
    rintro e w' ⟨rfl, hw'⟩
    replace hw' := hw'.symm
    subst hw'
    generalize hle : letterR [a, b, d, c] = r at *
    go_wp2_with fail
    go_at_call 57
    refine (refPut bs bc g cap N { s with B := ⟨#[]⟩ } r _ (HR3.out.setB ⟨#[]⟩) ok2.out hr0.out.1 hr0.out.2).mono ?_
    rintro e w5 ⟨g5, cap5, N5, rfl, R5, K5, hg5⟩
    have HR5 : Hid (RefAt w5 bs bc g5 cap5 N5 (putR { s with B := ⟨#[]⟩ } r)) := R5
    have sz3 := K3.size
    have Hg : Hid (g5 = g ∨ w.heap.size ≤ g5) := hg5.imp id (fun q => by rw [set_size] at q; omega)
    have K6 : Keep (fun i => i = bs ∨ i = bc ∨ i = g) w w5 := (K3.setCell ⟨bs, 14, none⟩ (.string ⟨#[]⟩) (fun _ => .inl rfl)).trans K5 (fun _ _ h => h)
    clear R5 hg5 K5 hle
    go_wp2_with fail
    go_end0
    exact rpost HR5.out K6 Hg.out
end Go.Proofs.YtknhohbepkapdaaDoor
