/- Texts of the proof, one behind the other: Pk, LaB, UdA, UdB, UdC. -/
import Derived.Test.YtjlfibhbfdckpaaGreatDoorK08
import Derived.Test.YtjlfibhbfdckpaaGreatDoorK16
import Derived.Deep.RegionHeld3
/- The statements' pick. -/
namespace Go.Proofs.YtjlfibhbfdckpaaGreatDoor
open Go.RowKit
attribute [local go_sem ↓] Go.wp_at_zero Go.wp_at_succ
def pickK (c : Int) (n : Nat) : Nat := ((if c < 0 then -(c + 1) else c) % n).toNat
theorem pickK_lt (c : Int) {n : Nat} (h : 0 < n) : pickK c n < n := by
  unfold pickK
  have := Int.emod_lt_of_pos (if c < 0 then -(c + 1) else c) (show (0 : Int) < n by omega)
  have := Int.emod_nonneg (if c < 0 then -(c + 1) else c) (show (n : Int) ≠ 0 by omega)
  omega
theorem pickK_pos {c : Int} {n : Nat} (h : 0 < n) (hc : ¬ c < 0) : c.tmod n = pickK c n := by
  unfold pickK
  rw [if_neg hc, Int.toNat_of_nonneg (Int.emod_nonneg _ (by omega)), Int.tmod_eq_emod_of_nonneg (by omega)]
theorem pickK_neg {c : Int} {n : Nat} (h : 0 < n) (hc : c < 0) : (-(c + 1)).tmod n = pickK c n := by
  unfold pickK
  rw [if_pos hc, Int.toNat_of_nonneg (Int.emod_nonneg _ (by omega)), Int.tmod_eq_emod_of_nonneg (by omega)]
set_option maxHeartbeats 1000000 in
theorem kPick (c : Int) (n : Nat) (w : World) (hn : 0 < n) (hn2 : (n : Int) ≤ 9223372036854775807) (c0 : -9223372036854775808 ≤ c) (c1 : c ≤ 9223372036854775807) :
    Calls Tryz.prog 16 #[.int .i64 c, .int .i64 n] w fun e w' => e = .returned (.int .i64 (pickK c n)) ∧ w' = w := by
  have n0 : ¬ (n : Int) = 0 := by omega
  have n0' : ((n : Int) == 0) = false := by simp; omega
  have lt := pickK_lt c hn
  by_cases hc : c < 0
  · have e := pickK_neg hn hc
    go_enter Tryz.func16, Tryz.ntmps16
    go_wp2
    go_ret
    exact ⟨rfl, rfl⟩
  · have e := pickK_pos hn hc
    go_enter Tryz.func16, Tryz.ntmps16
    go_wp2
    go_ret
    exact ⟨rfl, rfl⟩
end Go.Proofs.YtjlfibhbfdckpaaGreatDoor

/- Laid: pen, opens. -/
namespace Go.Proofs.YtjlfibhbfdckpaaGreatDoor
open Go.RowKit
attribute [local go_sem ↓] Go.wp_at_zero Go.wp_at_succ
def penK (p : Pn) : Pn := { p with f := pickK p.f 9, b := pickK p.b 9 }
set_option maxRecDepth 100000 in
set_option maxHeartbeats 1000000 in
theorem kPen (p : Pn) (w : World) (f0 : -9223372036854775808 ≤ p.f) (f1 : p.f ≤ 9223372036854775807) (b0 : -9223372036854775808 ≤ p.b) (b1 : p.b ≤ 9223372036854775807) :
    Calls Tryz.prog 56 #[p.agg] w fun e w' => e = .returned (penK p).agg ∧ Below w.heap.size w w' := by
  obtain ⟨pf, pb, bo, un, re⟩ := p
  go_enter Tryz.func56, Tryz.ntmps56
  go_wp2_with fail
  go_at_call 16
  refine (kPick pf 9 _ (by omega) (by omega) f0 f1).mono ?_
  rintro e w2 ⟨rfl, hw2⟩
  subst hw2
  go_wp2_with fail
  go_at_call 16
  refine (kPick pb 9 _ (by omega) (by omega) b0 b1).mono ?_
  rintro e w2 ⟨rfl, hw2⟩
  subst hw2
  go_wp2_with fail
  refine bodyPost_ret (v := (penK ⟨pf, pb, bo, un, re⟩).agg) (by simp [results, Tryz.results56, go_sem, penK]) rfl ⟨rfl, ((Below.refl _ _).alloc (Nat.le_refl _) _).alloc (by simp) _⟩
def openL : List Wn := updL [rootW 2 1] 0 (fun u => { u with G := writeAll 2 1 0 Pn.plain 0 (runesG ⟨#[97]⟩ 1 0) (rootW 2 1).G })
def openR : Wn := { rootW 2 1 with G := writeAll 2 1 0 Pn.plain 0 (runesG ⟨#[97]⟩ 1 0) (rootW 2 1).G }
theorem openL_eq : openL = [openR] := rfl
theorem open_pic : picP openL 0 openR 0 0 = ⟨97, 0, Pn.plain⟩ := by kernel_rfl
theorem open_tree : Tree openL (fun _ => 0) 0 := by
  rw [openL_eq]
  exact ⟨⟨openR, [], rfl, rfl, rfl, by simp⟩, by simp, by simp [openR, rootW], by simp⟩
theorem open_ok : DOk openL 0 := ⟨⟨_, _, open_tree⟩, by rw [openL_eq]; simp [openR, rootW], by rw [openL_eq]; simp, by rw [openL_eq]; simp [openR, rootW]⟩
/-- What lay stays: all that a desk has is new. -/
theorem Keep.new {M : Mm} {L : List Wn} {w0 w w' : World} (h : Below w0.heap.size w0 w) (k : Keep (M.own L) w w') (hM : ∀ i, M.own L i → w0.heap.size ≤ i) : Below w0.heap.size w0 w' :=
  h.trans (k.toBelow h.size (fun i hi ho => by have := hM i ho; omega))
set_option maxRecDepth 100000 in
set_option maxHeartbeats 2000000 in
theorem kOpens (w : World) (hw : 2 ≤ w.heap.size) :
    Calls Tryz.prog 44 #[] w fun e w' => e = .returned (.bool true) ∧ Below w.heap.size w w' := by
  go_enter Tryz.func44, Tryz.ntmps44
  go_wp2_with fail
  go_at_call 15
  refine (kNew 2 1 _ (by omega) (by omega) (by omega) (by omega) hw).mono ?_
  rintro e wa ⟨M, rfl, D1, B1, O1⟩
  have HD1 : Hid (DkAt wa M [rootW 2 1] 0 (1 * 2) (newR 2 1) newT) := D1
  have HB1 : Hid (Below w.heap.size w wa) := B1
  have HO1 : Hid (∀ i, M.own [rootW 2 1] i → w.heap.size ≤ i) := O1
  clear D1 B1 O1
  go_wp2_with fail
  go_at_call 31
  refine (kWrite (ok_root 2 1) _ HD1.out (rootW 2 1) (by simp) 0 0 (by decide) ⟨#[97]⟩ (by decide) Pn.plain (by decide)).mono ?_
  rintro e wb ⟨M2, rfl, D2, t2, K2, O2⟩
  have HD2 : Hid (DkAt wb M2 openL 0 (1 * 2) (newR 2 1) newT) := D2
  have HB2 : Hid (Below w.heap.size w wb) := Keep.new HB1.out K2 HO1.out
  rw [← t2]
  clear D2 K2 O2 t2
  go_wp2_with fail
  go_at_call 11
  refine (kCell open_tree open_ok _ HD2.out openR (by rw [openL_eq]; simp) rfl 0 0 (by decide) (by decide)).mono ?_
  rw [show picP openL 0 openR ((0 : Nat) : Int) ((0 : Nat) : Int) = ⟨97, 0, Pn.plain⟩ from open_pic]
  rintro e wc ⟨rfl, bc⟩
  replace HB2 : Hid (Below w.heap.size w wc) := HB2.out.trans (bc.mono HB2.out.size)
  clear bc
  go_wp2_with fail
  go_ret
  exact ⟨rfl, HB2.out.trans (((Below.refl _ _).alloc (Nat.le_refl _) _).mono HB2.out.size)⟩
end Go.Proofs.YtjlfibhbfdckpaaGreatDoor

/- The statements with the program's own screen: act: a step with a desk. -/
namespace Go.Proofs.YtjlfibhbfdckpaaGreatDoor
open Go.RowKit
attribute [local go_sem ↓] Go.wp_at_zero Go.wp_at_succ
/-- A step of the script. -/
structure Ac where
  kd : Int
  a : Int
  b : Int
  c : Int
  d : Int
  e : Int
  s : ByteArray
  p : Pn
  wb : Bool
def Rng (x : Int) : Prop := -9223372036854775808 ≤ x ∧ x ≤ 9223372036854775807
structure Ac.In (o : Ac) : Prop where
  kd : Rng o.kd
  a : Rng o.a
  b : Rng o.b
  c : Rng o.c
  d : Rng o.d
  e : Rng o.e
  f : Rng o.p.f
  g : Rng o.p.b
  sz : o.s.size ≤ 9223372036854775807
abbrev Ac.arr (o : Ac) : Array Value := #[.int .i64 o.kd, .int .i64 o.a, .int .i64 o.b, .int .i64 o.c, .int .i64 o.d, .int .i64 o.e, .string o.s, .int .i64 o.p.f, .int .i64 o.p.b, .bool o.p.bo, .bool o.p.un, .bool o.p.re, .bool o.wb]
abbrev Ac.agg (o : Ac) : Value := .agg o.arr
def shortK (s : ByteArray) : ByteArray := if 40 < s.size then s.extract 0 40 else s
set_option maxHeartbeats 1000000 in
theorem kShort (s : ByteArray) (w : World) (hs : s.size ≤ 9223372036854775807) :
    Calls Tryz.prog 55 #[.string s, .int .i64 40] w fun e w' => e = .returned (.string (shortK s)) ∧ w' = w := by
  by_cases h : 40 < s.size
  · have e : shortK s = s.extract 0 40 := if_pos h
    have h' : (40 : Int) < (s.size : Int) := by omega
    rw [e]
    go_enter Tryz.func55, Tryz.ntmps55
    go_wp2_with fail
    go_ret
    exact ⟨rfl, rfl⟩
  · have e : shortK s = s := if_neg h
    have h' : ¬ ((40 : Int) < (s.size : Int)) := by omega
    rw [e]
    go_enter Tryz.func55, Tryz.ntmps55
    go_wp2_with fail
    go_ret
    exact ⟨rfl, rfl⟩
def pkI (c n : Int) : Int := (pickK c n.toNat : Nat)
theorem pkI_in (c : Int) {n : Int} (h : 0 < n) : 0 ≤ pkI c n ∧ pkI c n < n := by
  unfold pkI
  have := pickK_lt c (n := n.toNat) (by omega)
  omega
theorem kPkI (c n : Int) (w : World) (hn : 0 < n) (hn2 : n ≤ 1000) (h : Rng c) :
    Calls Tryz.prog 16 #[.int .i64 c, .int .i64 n] w fun e w' => e = .returned (.int .i64 (pkI c n)) ∧ w' = w := by
  obtain ⟨m, rfl⟩ := Int.eq_ofNat_of_zero_le (show 0 ≤ n by omega)
  exact kPick c m w (by omega) (by omega) h.1 h.2
end Go.Proofs.YtjlfibhbfdckpaaGreatDoor

/- The statements with the program's own screen: act, kind 2, 3, 5, 6, 7, 11. -/
namespace Go.Proofs.YtjlfibhbfdckpaaGreatDoor
open Go.RowKit
attribute [local go_sem ↓] Go.wp_at_zero Go.wp_at_succ
set_option maxRecDepth 10000 in
set_option maxHeartbeats 4000000 in
theorem act2 {w : World} (d : Option Addr) (o : Ac) (ho : o.In) (hk : pkI o.kd 12 = 2) {c : Int} {O : Nat → Prop} {R : World → World → Prop} (hO : ∀ i, O i → i < w.heap.size) (hQ : ∀ wA, Below w.heap.size w wA → Calls Tryz.prog 49 #[.pointer d, .int .i64 (pkI o.a 8)] wA fun e w' => e = .returned (.int .i64 c) ∧ Keep O wA w' ∧ R wA w') :
    Calls Tryz.prog 17 #[.pointer d, o.agg] w fun e w' => e = .returned (.int .i64 c) ∧ ∃ wA, Below w.heap.size w wA ∧ R wA w' := by
  have HQ : Hid (∀ wA, Below w.heap.size w wA → Calls Tryz.prog 49 #[.pointer d, .int .i64 (pkI o.a 8)] wA fun e w' => e = .returned (.int .i64 c) ∧ Keep O wA w' ∧ R wA w') := hQ
  have HO : Hid (∀ i, O i → i < w.heap.size) := hO
  have Ra : Hid (Rng o.a) := ho.a
  have Rb : Hid (Rng o.b) := ho.b
  have Rc : Hid (Rng o.c) := ho.c
  have Rd : Hid (Rng o.d) := ho.d
  have Re : Hid (Rng o.e) := ho.e
  have Rk : Hid (Rng o.kd) := ho.kd
  have lb20 := pkI_in o.b (n := 20) (by decide)
  have lc14 := pkI_in o.c (n := 14) (by decide)
  obtain ⟨lb20x, lb20y⟩ := lb20
  obtain ⟨lc14x, lc14y⟩ := lc14
  clear hQ hO ho
  obtain ⟨M, hM⟩ : ∃ M, w.heap.size = M := ⟨_, rfl⟩
  go_enter Tryz.func17, Tryz.ntmps17
  go_wp2_with fail
  have hA : ∃ wA, w.alloc (.cells o.arr 53) = wA ∧ wA.heap[M]? = some (.cells o.arr 53) ∧ Below w.heap.size w wA ∧ M < wA.heap.size := by
    subst hM
    exact ⟨_, rfl, heap_new _ _, (Below.refl _ _).alloc (Nat.le_refl _) _, by simp⟩
  obtain ⟨wA, hwA, bA, belA, zM⟩ := hA
  rw [hwA]
  have HB : Hid (Below w.heap.size w wA) := belA
  have nO : Hid (¬ O M) := fun q => by have := HO.out _ q; omega
  have k0 : wA.cell? ⟨M, 0, none⟩ = some (.int .i64 o.kd) := cell_of_block bA 0
  have k1 : wA.cell? ⟨M, 1, none⟩ = some (.int .i64 o.a) := cell_of_block bA 1
  have k2 : wA.cell? ⟨M, 2, none⟩ = some (.int .i64 o.b) := cell_of_block bA 2
  have k3 : wA.cell? ⟨M, 3, none⟩ = some (.int .i64 o.c) := cell_of_block bA 3
  have k4 : wA.cell? ⟨M, 4, none⟩ = some (.int .i64 o.d) := cell_of_block bA 4
  have k5 : wA.cell? ⟨M, 5, none⟩ = some (.int .i64 o.e) := cell_of_block bA 5
  have k6 : wA.cell? ⟨M, 6, none⟩ = some (.string o.s) := cell_of_block bA 6
  have k7 : wA.cell? ⟨M, 7, none⟩ = some (.int .i64 o.p.f) := cell_of_block bA 7
  have k8 : wA.cell? ⟨M, 8, none⟩ = some (.int .i64 o.p.b) := cell_of_block bA 8
  have k9 : wA.cell? ⟨M, 9, none⟩ = some (.bool o.p.bo) := cell_of_block bA 9
  have k10 : wA.cell? ⟨M, 10, none⟩ = some (.bool o.p.un) := cell_of_block bA 10
  have k11 : wA.cell? ⟨M, 11, none⟩ = some (.bool o.p.re) := cell_of_block bA 11
  have k12 : wA.cell? ⟨M, 12, none⟩ = some (.bool o.wb) := cell_of_block bA 12
  clear hwA bA belA HO hM
  go_at_call 16
  refine (kPkI _ _ _ (by decide) (by decide) (by first | exact Ra.out | exact Rb.out | exact Rc.out | exact Rd.out | exact Re.out | exact Rk.out)).mono ?_
  rintro e w' ⟨rfl, hw'⟩
  replace hw' := hw'.symm
  subst hw'
  go_wp2_with (first | (go_at_call 16; refine (kPkI _ _ _ (by decide) (by decide) (by first | exact Ra.out | exact Rb.out | exact Rc.out | exact Rd.out | exact Re.out | exact Rk.out)).mono ?_; rintro e w' ⟨rfl, hw'⟩; replace hw' := hw'.symm; subst hw'))
  go_at_call 49
  refine (HQ.out _ HB.out).mono ?_
  rintro e w9 ⟨rfl, K9, hR⟩
  have HR : Hid (∃ wA, Below w.heap.size w wA ∧ R wA w9) := ⟨_, HB.out, hR⟩
  clear K9 hR
  go_wp2_with fail
  go_ret
  exact ⟨rfl, HR.out⟩
set_option maxRecDepth 10000 in
set_option maxHeartbeats 4000000 in
theorem act3 {w : World} (d : Option Addr) (o : Ac) (ho : o.In) (hk : pkI o.kd 12 = 3) {c : Int} {O : Nat → Prop} {R : World → World → Prop} (hO : ∀ i, O i → i < w.heap.size) (hQ : ∀ wA, Below w.heap.size w wA → Calls Tryz.prog 50 #[.pointer d, .int .i64 (pkI o.a 8), .int .i64 (pkI o.b 20 - 5), .int .i64 (pkI o.c 14 - 4)] wA fun e w' => e = .returned (.int .i64 c) ∧ Keep O wA w' ∧ R wA w') :
    Calls Tryz.prog 17 #[.pointer d, o.agg] w fun e w' => e = .returned (.int .i64 c) ∧ ∃ wA, Below w.heap.size w wA ∧ R wA w' := by
  have HQ : Hid (∀ wA, Below w.heap.size w wA → Calls Tryz.prog 50 #[.pointer d, .int .i64 (pkI o.a 8), .int .i64 (pkI o.b 20 - 5), .int .i64 (pkI o.c 14 - 4)] wA fun e w' => e = .returned (.int .i64 c) ∧ Keep O wA w' ∧ R wA w') := hQ
  have HO : Hid (∀ i, O i → i < w.heap.size) := hO
  have Ra : Hid (Rng o.a) := ho.a
  have Rb : Hid (Rng o.b) := ho.b
  have Rc : Hid (Rng o.c) := ho.c
  have Rd : Hid (Rng o.d) := ho.d
  have Re : Hid (Rng o.e) := ho.e
  have Rk : Hid (Rng o.kd) := ho.kd
  have lb20 := pkI_in o.b (n := 20) (by decide)
  have lc14 := pkI_in o.c (n := 14) (by decide)
  obtain ⟨lb20x, lb20y⟩ := lb20
  obtain ⟨lc14x, lc14y⟩ := lc14
  clear hQ hO ho
  obtain ⟨M, hM⟩ : ∃ M, w.heap.size = M := ⟨_, rfl⟩
  go_enter Tryz.func17, Tryz.ntmps17
  go_wp2_with fail
  have hA : ∃ wA, w.alloc (.cells o.arr 53) = wA ∧ wA.heap[M]? = some (.cells o.arr 53) ∧ Below w.heap.size w wA ∧ M < wA.heap.size := by
    subst hM
    exact ⟨_, rfl, heap_new _ _, (Below.refl _ _).alloc (Nat.le_refl _) _, by simp⟩
  obtain ⟨wA, hwA, bA, belA, zM⟩ := hA
  rw [hwA]
  have HB : Hid (Below w.heap.size w wA) := belA
  have nO : Hid (¬ O M) := fun q => by have := HO.out _ q; omega
  have k0 : wA.cell? ⟨M, 0, none⟩ = some (.int .i64 o.kd) := cell_of_block bA 0
  have k1 : wA.cell? ⟨M, 1, none⟩ = some (.int .i64 o.a) := cell_of_block bA 1
  have k2 : wA.cell? ⟨M, 2, none⟩ = some (.int .i64 o.b) := cell_of_block bA 2
  have k3 : wA.cell? ⟨M, 3, none⟩ = some (.int .i64 o.c) := cell_of_block bA 3
  have k4 : wA.cell? ⟨M, 4, none⟩ = some (.int .i64 o.d) := cell_of_block bA 4
  have k5 : wA.cell? ⟨M, 5, none⟩ = some (.int .i64 o.e) := cell_of_block bA 5
  have k6 : wA.cell? ⟨M, 6, none⟩ = some (.string o.s) := cell_of_block bA 6
  have k7 : wA.cell? ⟨M, 7, none⟩ = some (.int .i64 o.p.f) := cell_of_block bA 7
  have k8 : wA.cell? ⟨M, 8, none⟩ = some (.int .i64 o.p.b) := cell_of_block bA 8
  have k9 : wA.cell? ⟨M, 9, none⟩ = some (.bool o.p.bo) := cell_of_block bA 9
  have k10 : wA.cell? ⟨M, 10, none⟩ = some (.bool o.p.un) := cell_of_block bA 10
  have k11 : wA.cell? ⟨M, 11, none⟩ = some (.bool o.p.re) := cell_of_block bA 11
  have k12 : wA.cell? ⟨M, 12, none⟩ = some (.bool o.wb) := cell_of_block bA 12
  clear hwA bA belA HO hM
  go_at_call 16
  refine (kPkI _ _ _ (by decide) (by decide) (by first | exact Ra.out | exact Rb.out | exact Rc.out | exact Rd.out | exact Re.out | exact Rk.out)).mono ?_
  rintro e w' ⟨rfl, hw'⟩
  replace hw' := hw'.symm
  subst hw'
  go_wp2_with (first | (go_at_call 16; refine (kPkI _ _ _ (by decide) (by decide) (by first | exact Ra.out | exact Rb.out | exact Rc.out | exact Rd.out | exact Re.out | exact Rk.out)).mono ?_; rintro e w' ⟨rfl, hw'⟩; replace hw' := hw'.symm; subst hw'))
  go_at_call 50
  refine (HQ.out _ HB.out).mono ?_
  rintro e w9 ⟨rfl, K9, hR⟩
  have HR : Hid (∃ wA, Below w.heap.size w wA ∧ R wA w9) := ⟨_, HB.out, hR⟩
  clear K9 hR
  go_wp2_with fail
  go_ret
  exact ⟨rfl, HR.out⟩
set_option maxRecDepth 10000 in
set_option maxHeartbeats 4000000 in
theorem act5 {w : World} (d : Option Addr) (o : Ac) (ho : o.In) (hk : pkI o.kd 12 = 5) {c : Int} {O : Nat → Prop} {R : World → World → Prop} (hO : ∀ i, O i → i < w.heap.size) (hQ : ∀ wA, Below w.heap.size w wA → Calls Tryz.prog 52 #[.pointer d, .int .i64 (pkI o.a 8), .bool o.wb] wA fun e w' => e = .returned (.int .i64 c) ∧ Keep O wA w' ∧ R wA w') :
    Calls Tryz.prog 17 #[.pointer d, o.agg] w fun e w' => e = .returned (.int .i64 c) ∧ ∃ wA, Below w.heap.size w wA ∧ R wA w' := by
  have HQ : Hid (∀ wA, Below w.heap.size w wA → Calls Tryz.prog 52 #[.pointer d, .int .i64 (pkI o.a 8), .bool o.wb] wA fun e w' => e = .returned (.int .i64 c) ∧ Keep O wA w' ∧ R wA w') := hQ
  have HO : Hid (∀ i, O i → i < w.heap.size) := hO
  have Ra : Hid (Rng o.a) := ho.a
  have Rb : Hid (Rng o.b) := ho.b
  have Rc : Hid (Rng o.c) := ho.c
  have Rd : Hid (Rng o.d) := ho.d
  have Re : Hid (Rng o.e) := ho.e
  have Rk : Hid (Rng o.kd) := ho.kd
  have lb20 := pkI_in o.b (n := 20) (by decide)
  have lc14 := pkI_in o.c (n := 14) (by decide)
  obtain ⟨lb20x, lb20y⟩ := lb20
  obtain ⟨lc14x, lc14y⟩ := lc14
  clear hQ hO ho
  obtain ⟨M, hM⟩ : ∃ M, w.heap.size = M := ⟨_, rfl⟩
  go_enter Tryz.func17, Tryz.ntmps17
  go_wp2_with fail
  have hA : ∃ wA, w.alloc (.cells o.arr 53) = wA ∧ wA.heap[M]? = some (.cells o.arr 53) ∧ Below w.heap.size w wA ∧ M < wA.heap.size := by
    subst hM
    exact ⟨_, rfl, heap_new _ _, (Below.refl _ _).alloc (Nat.le_refl _) _, by simp⟩
  obtain ⟨wA, hwA, bA, belA, zM⟩ := hA
  rw [hwA]
  have HB : Hid (Below w.heap.size w wA) := belA
  have nO : Hid (¬ O M) := fun q => by have := HO.out _ q; omega
  have k0 : wA.cell? ⟨M, 0, none⟩ = some (.int .i64 o.kd) := cell_of_block bA 0
  have k1 : wA.cell? ⟨M, 1, none⟩ = some (.int .i64 o.a) := cell_of_block bA 1
  have k2 : wA.cell? ⟨M, 2, none⟩ = some (.int .i64 o.b) := cell_of_block bA 2
  have k3 : wA.cell? ⟨M, 3, none⟩ = some (.int .i64 o.c) := cell_of_block bA 3
  have k4 : wA.cell? ⟨M, 4, none⟩ = some (.int .i64 o.d) := cell_of_block bA 4
  have k5 : wA.cell? ⟨M, 5, none⟩ = some (.int .i64 o.e) := cell_of_block bA 5
  have k6 : wA.cell? ⟨M, 6, none⟩ = some (.string o.s) := cell_of_block bA 6
  have k7 : wA.cell? ⟨M, 7, none⟩ = some (.int .i64 o.p.f) := cell_of_block bA 7
  have k8 : wA.cell? ⟨M, 8, none⟩ = some (.int .i64 o.p.b) := cell_of_block bA 8
  have k9 : wA.cell? ⟨M, 9, none⟩ = some (.bool o.p.bo) := cell_of_block bA 9
  have k10 : wA.cell? ⟨M, 10, none⟩ = some (.bool o.p.un) := cell_of_block bA 10
  have k11 : wA.cell? ⟨M, 11, none⟩ = some (.bool o.p.re) := cell_of_block bA 11
  have k12 : wA.cell? ⟨M, 12, none⟩ = some (.bool o.wb) := cell_of_block bA 12
  clear hwA bA belA HO hM
  go_at_call 16
  refine (kPkI _ _ _ (by decide) (by decide) (by first | exact Ra.out | exact Rb.out | exact Rc.out | exact Rd.out | exact Re.out | exact Rk.out)).mono ?_
  rintro e w' ⟨rfl, hw'⟩
  replace hw' := hw'.symm
  subst hw'
  go_wp2_with (first | (go_at_call 16; refine (kPkI _ _ _ (by decide) (by decide) (by first | exact Ra.out | exact Rb.out | exact Rc.out | exact Rd.out | exact Re.out | exact Rk.out)).mono ?_; rintro e w' ⟨rfl, hw'⟩; replace hw' := hw'.symm; subst hw'))
  go_at_call 52
  refine (HQ.out _ HB.out).mono ?_
  rintro e w9 ⟨rfl, K9, hR⟩
  have HR : Hid (∃ wA, Below w.heap.size w wA ∧ R wA w9) := ⟨_, HB.out, hR⟩
  clear K9 hR
  go_wp2_with fail
  go_ret
  exact ⟨rfl, HR.out⟩
set_option maxRecDepth 10000 in
set_option maxHeartbeats 4000000 in
theorem act6 {w : World} (d : Option Addr) (o : Ac) (ho : o.In) (hk : pkI o.kd 12 = 6) {c : Int} {O : Nat → Prop} {R : World → World → Prop} (hO : ∀ i, O i → i < w.heap.size) (hQ : ∀ wA, Below w.heap.size w wA → Calls Tryz.prog 53 #[.pointer d, .int .i64 (pkI o.a 8), .bool o.wb] wA fun e w' => e = .returned (.int .i64 c) ∧ Keep O wA w' ∧ R wA w') :
    Calls Tryz.prog 17 #[.pointer d, o.agg] w fun e w' => e = .returned (.int .i64 c) ∧ ∃ wA, Below w.heap.size w wA ∧ R wA w' := by
  have HQ : Hid (∀ wA, Below w.heap.size w wA → Calls Tryz.prog 53 #[.pointer d, .int .i64 (pkI o.a 8), .bool o.wb] wA fun e w' => e = .returned (.int .i64 c) ∧ Keep O wA w' ∧ R wA w') := hQ
  have HO : Hid (∀ i, O i → i < w.heap.size) := hO
  have Ra : Hid (Rng o.a) := ho.a
  have Rb : Hid (Rng o.b) := ho.b
  have Rc : Hid (Rng o.c) := ho.c
  have Rd : Hid (Rng o.d) := ho.d
  have Re : Hid (Rng o.e) := ho.e
  have Rk : Hid (Rng o.kd) := ho.kd
  have lb20 := pkI_in o.b (n := 20) (by decide)
  have lc14 := pkI_in o.c (n := 14) (by decide)
  obtain ⟨lb20x, lb20y⟩ := lb20
  obtain ⟨lc14x, lc14y⟩ := lc14
  clear hQ hO ho
  obtain ⟨M, hM⟩ : ∃ M, w.heap.size = M := ⟨_, rfl⟩
  go_enter Tryz.func17, Tryz.ntmps17
  go_wp2_with fail
  have hA : ∃ wA, w.alloc (.cells o.arr 53) = wA ∧ wA.heap[M]? = some (.cells o.arr 53) ∧ Below w.heap.size w wA ∧ M < wA.heap.size := by
    subst hM
    exact ⟨_, rfl, heap_new _ _, (Below.refl _ _).alloc (Nat.le_refl _) _, by simp⟩
  obtain ⟨wA, hwA, bA, belA, zM⟩ := hA
  rw [hwA]
  have HB : Hid (Below w.heap.size w wA) := belA
  have nO : Hid (¬ O M) := fun q => by have := HO.out _ q; omega
  have k0 : wA.cell? ⟨M, 0, none⟩ = some (.int .i64 o.kd) := cell_of_block bA 0
  have k1 : wA.cell? ⟨M, 1, none⟩ = some (.int .i64 o.a) := cell_of_block bA 1
  have k2 : wA.cell? ⟨M, 2, none⟩ = some (.int .i64 o.b) := cell_of_block bA 2
  have k3 : wA.cell? ⟨M, 3, none⟩ = some (.int .i64 o.c) := cell_of_block bA 3
  have k4 : wA.cell? ⟨M, 4, none⟩ = some (.int .i64 o.d) := cell_of_block bA 4
  have k5 : wA.cell? ⟨M, 5, none⟩ = some (.int .i64 o.e) := cell_of_block bA 5
  have k6 : wA.cell? ⟨M, 6, none⟩ = some (.string o.s) := cell_of_block bA 6
  have k7 : wA.cell? ⟨M, 7, none⟩ = some (.int .i64 o.p.f) := cell_of_block bA 7
  have k8 : wA.cell? ⟨M, 8, none⟩ = some (.int .i64 o.p.b) := cell_of_block bA 8
  have k9 : wA.cell? ⟨M, 9, none⟩ = some (.bool o.p.bo) := cell_of_block bA 9
  have k10 : wA.cell? ⟨M, 10, none⟩ = some (.bool o.p.un) := cell_of_block bA 10
  have k11 : wA.cell? ⟨M, 11, none⟩ = some (.bool o.p.re) := cell_of_block bA 11
  have k12 : wA.cell? ⟨M, 12, none⟩ = some (.bool o.wb) := cell_of_block bA 12
  clear hwA bA belA HO hM
  go_at_call 16
  refine (kPkI _ _ _ (by decide) (by decide) (by first | exact Ra.out | exact Rb.out | exact Rc.out | exact Rd.out | exact Re.out | exact Rk.out)).mono ?_
  rintro e w' ⟨rfl, hw'⟩
  replace hw' := hw'.symm
  subst hw'
  go_wp2_with (first | (go_at_call 16; refine (kPkI _ _ _ (by decide) (by decide) (by first | exact Ra.out | exact Rb.out | exact Rc.out | exact Rd.out | exact Re.out | exact Rk.out)).mono ?_; rintro e w' ⟨rfl, hw'⟩; replace hw' := hw'.symm; subst hw'))
  go_at_call 53
  refine (HQ.out _ HB.out).mono ?_
  rintro e w9 ⟨rfl, K9, hR⟩
  have HR : Hid (∃ wA, Below w.heap.size w wA ∧ R wA w9) := ⟨_, HB.out, hR⟩
  clear K9 hR
  go_wp2_with fail
  go_ret
  exact ⟨rfl, HR.out⟩
set_option maxRecDepth 10000 in
set_option maxHeartbeats 4000000 in
theorem act7 {w : World} (d : Option Addr) (o : Ac) (ho : o.In) (hk : pkI o.kd 12 = 7) {c : Int} {O : Nat → Prop} {R : World → World → Prop} (hO : ∀ i, O i → i < w.heap.size) (hQ : ∀ wA, Below w.heap.size w wA → Calls Tryz.prog 54 #[.pointer d, .int .i64 (pkI o.a 8), .int .i64 (pkI o.b 8)] wA fun e w' => e = .returned (.int .i64 c) ∧ Keep O wA w' ∧ R wA w') :
    Calls Tryz.prog 17 #[.pointer d, o.agg] w fun e w' => e = .returned (.int .i64 c) ∧ ∃ wA, Below w.heap.size w wA ∧ R wA w' := by
  have HQ : Hid (∀ wA, Below w.heap.size w wA → Calls Tryz.prog 54 #[.pointer d, .int .i64 (pkI o.a 8), .int .i64 (pkI o.b 8)] wA fun e w' => e = .returned (.int .i64 c) ∧ Keep O wA w' ∧ R wA w') := hQ
  have HO : Hid (∀ i, O i → i < w.heap.size) := hO
  have Ra : Hid (Rng o.a) := ho.a
  have Rb : Hid (Rng o.b) := ho.b
  have Rc : Hid (Rng o.c) := ho.c
  have Rd : Hid (Rng o.d) := ho.d
  have Re : Hid (Rng o.e) := ho.e
  have Rk : Hid (Rng o.kd) := ho.kd
  have lb20 := pkI_in o.b (n := 20) (by decide)
  have lc14 := pkI_in o.c (n := 14) (by decide)
  obtain ⟨lb20x, lb20y⟩ := lb20
  obtain ⟨lc14x, lc14y⟩ := lc14
  clear hQ hO ho
  obtain ⟨M, hM⟩ : ∃ M, w.heap.size = M := ⟨_, rfl⟩
  go_enter Tryz.func17, Tryz.ntmps17
  go_wp2_with fail
  have hA : ∃ wA, w.alloc (.cells o.arr 53) = wA ∧ wA.heap[M]? = some (.cells o.arr 53) ∧ Below w.heap.size w wA ∧ M < wA.heap.size := by
    subst hM
    exact ⟨_, rfl, heap_new _ _, (Below.refl _ _).alloc (Nat.le_refl _) _, by simp⟩
  obtain ⟨wA, hwA, bA, belA, zM⟩ := hA
  rw [hwA]
  have HB : Hid (Below w.heap.size w wA) := belA
  have nO : Hid (¬ O M) := fun q => by have := HO.out _ q; omega
  have k0 : wA.cell? ⟨M, 0, none⟩ = some (.int .i64 o.kd) := cell_of_block bA 0
  have k1 : wA.cell? ⟨M, 1, none⟩ = some (.int .i64 o.a) := cell_of_block bA 1
  have k2 : wA.cell? ⟨M, 2, none⟩ = some (.int .i64 o.b) := cell_of_block bA 2
  have k3 : wA.cell? ⟨M, 3, none⟩ = some (.int .i64 o.c) := cell_of_block bA 3
  have k4 : wA.cell? ⟨M, 4, none⟩ = some (.int .i64 o.d) := cell_of_block bA 4
  have k5 : wA.cell? ⟨M, 5, none⟩ = some (.int .i64 o.e) := cell_of_block bA 5
  have k6 : wA.cell? ⟨M, 6, none⟩ = some (.string o.s) := cell_of_block bA 6
  have k7 : wA.cell? ⟨M, 7, none⟩ = some (.int .i64 o.p.f) := cell_of_block bA 7
  have k8 : wA.cell? ⟨M, 8, none⟩ = some (.int .i64 o.p.b) := cell_of_block bA 8
  have k9 : wA.cell? ⟨M, 9, none⟩ = some (.bool o.p.bo) := cell_of_block bA 9
  have k10 : wA.cell? ⟨M, 10, none⟩ = some (.bool o.p.un) := cell_of_block bA 10
  have k11 : wA.cell? ⟨M, 11, none⟩ = some (.bool o.p.re) := cell_of_block bA 11
  have k12 : wA.cell? ⟨M, 12, none⟩ = some (.bool o.wb) := cell_of_block bA 12
  clear hwA bA belA HO hM
  go_at_call 16
  refine (kPkI _ _ _ (by decide) (by decide) (by first | exact Ra.out | exact Rb.out | exact Rc.out | exact Rd.out | exact Re.out | exact Rk.out)).mono ?_
  rintro e w' ⟨rfl, hw'⟩
  replace hw' := hw'.symm
  subst hw'
  go_wp2_with (first | (go_at_call 16; refine (kPkI _ _ _ (by decide) (by decide) (by first | exact Ra.out | exact Rb.out | exact Rc.out | exact Rd.out | exact Re.out | exact Rk.out)).mono ?_; rintro e w' ⟨rfl, hw'⟩; replace hw' := hw'.symm; subst hw'))
  go_at_call 54
  refine (HQ.out _ HB.out).mono ?_
  rintro e w9 ⟨rfl, K9, hR⟩
  have HR : Hid (∃ wA, Below w.heap.size w wA ∧ R wA w9) := ⟨_, HB.out, hR⟩
  clear K9 hR
  go_wp2_with fail
  go_ret
  exact ⟨rfl, HR.out⟩
set_option maxRecDepth 10000 in
set_option maxHeartbeats 4000000 in
theorem act11 {w : World} (d : Option Addr) (o : Ac) (ho : o.In) (hk : pkI o.kd 12 = 11) {c : Int} {O : Nat → Prop} {R : World → World → Prop} (hO : ∀ i, O i → i < w.heap.size) (hQ : ∀ wA, Below w.heap.size w wA → Calls Tryz.prog 35 #[.pointer d, .int .i64 (pkI o.a 8), .int .i64 (pkI o.b 9 - 4)] wA fun e w' => e = .returned (.int .i64 c) ∧ Keep O wA w' ∧ R wA w') :
    Calls Tryz.prog 17 #[.pointer d, o.agg] w fun e w' => e = .returned (.int .i64 c) ∧ ∃ wA, Below w.heap.size w wA ∧ R wA w' := by
  have HQ : Hid (∀ wA, Below w.heap.size w wA → Calls Tryz.prog 35 #[.pointer d, .int .i64 (pkI o.a 8), .int .i64 (pkI o.b 9 - 4)] wA fun e w' => e = .returned (.int .i64 c) ∧ Keep O wA w' ∧ R wA w') := hQ
  have HO : Hid (∀ i, O i → i < w.heap.size) := hO
  have Ra : Hid (Rng o.a) := ho.a
  have Rb : Hid (Rng o.b) := ho.b
  have Rc : Hid (Rng o.c) := ho.c
  have Rd : Hid (Rng o.d) := ho.d
  have Re : Hid (Rng o.e) := ho.e
  have Rk : Hid (Rng o.kd) := ho.kd
  have lb20 := pkI_in o.b (n := 20) (by decide)
  have lc14 := pkI_in o.c (n := 14) (by decide)
  have lb9 := pkI_in o.b (n := 9) (by decide)
  obtain ⟨lb20x, lb20y⟩ := lb20
  obtain ⟨lc14x, lc14y⟩ := lc14
  obtain ⟨lb9x, lb9y⟩ := lb9
  clear hQ hO ho
  obtain ⟨M, hM⟩ : ∃ M, w.heap.size = M := ⟨_, rfl⟩
  go_enter Tryz.func17, Tryz.ntmps17
  go_wp2_with fail
  have hA : ∃ wA, w.alloc (.cells o.arr 53) = wA ∧ wA.heap[M]? = some (.cells o.arr 53) ∧ Below w.heap.size w wA ∧ M < wA.heap.size := by
    subst hM
    exact ⟨_, rfl, heap_new _ _, (Below.refl _ _).alloc (Nat.le_refl _) _, by simp⟩
  obtain ⟨wA, hwA, bA, belA, zM⟩ := hA
  rw [hwA]
  have HB : Hid (Below w.heap.size w wA) := belA
  have nO : Hid (¬ O M) := fun q => by have := HO.out _ q; omega
  have k0 : wA.cell? ⟨M, 0, none⟩ = some (.int .i64 o.kd) := cell_of_block bA 0
  have k1 : wA.cell? ⟨M, 1, none⟩ = some (.int .i64 o.a) := cell_of_block bA 1
  have k2 : wA.cell? ⟨M, 2, none⟩ = some (.int .i64 o.b) := cell_of_block bA 2
  have k3 : wA.cell? ⟨M, 3, none⟩ = some (.int .i64 o.c) := cell_of_block bA 3
  have k4 : wA.cell? ⟨M, 4, none⟩ = some (.int .i64 o.d) := cell_of_block bA 4
  have k5 : wA.cell? ⟨M, 5, none⟩ = some (.int .i64 o.e) := cell_of_block bA 5
  have k6 : wA.cell? ⟨M, 6, none⟩ = some (.string o.s) := cell_of_block bA 6
  have k7 : wA.cell? ⟨M, 7, none⟩ = some (.int .i64 o.p.f) := cell_of_block bA 7
  have k8 : wA.cell? ⟨M, 8, none⟩ = some (.int .i64 o.p.b) := cell_of_block bA 8
  have k9 : wA.cell? ⟨M, 9, none⟩ = some (.bool o.p.bo) := cell_of_block bA 9
  have k10 : wA.cell? ⟨M, 10, none⟩ = some (.bool o.p.un) := cell_of_block bA 10
  have k11 : wA.cell? ⟨M, 11, none⟩ = some (.bool o.p.re) := cell_of_block bA 11
  have k12 : wA.cell? ⟨M, 12, none⟩ = some (.bool o.wb) := cell_of_block bA 12
  clear hwA bA belA HO hM
  go_at_call 16
  refine (kPkI _ _ _ (by decide) (by decide) (by first | exact Ra.out | exact Rb.out | exact Rc.out | exact Rd.out | exact Re.out | exact Rk.out)).mono ?_
  rintro e w' ⟨rfl, hw'⟩
  replace hw' := hw'.symm
  subst hw'
  go_wp2_with (first | (go_at_call 16; refine (kPkI _ _ _ (by decide) (by decide) (by first | exact Ra.out | exact Rb.out | exact Rc.out | exact Rd.out | exact Re.out | exact Rk.out)).mono ?_; rintro e w' ⟨rfl, hw'⟩; replace hw' := hw'.symm; subst hw'))
  go_at_call 35
  refine (HQ.out _ HB.out).mono ?_
  rintro e w9 ⟨rfl, K9, hR⟩
  have HR : Hid (∃ wA, Below w.heap.size w wA ∧ R wA w9) := ⟨_, HB.out, hR⟩
  clear K9 hR
  go_wp2_with fail
  go_ret
  exact ⟨rfl, HR.out⟩
end Go.Proofs.YtjlfibhbfdckpaaGreatDoor

/- The statements with the program's own screen: act, kind 0, 1. -/
namespace Go.Proofs.YtjlfibhbfdckpaaGreatDoor
open Go.RowKit
attribute [local go_sem ↓] Go.wp_at_zero Go.wp_at_succ
set_option maxRecDepth 10000 in
set_option maxHeartbeats 4000000 in
theorem act0 {w : World} (d : Option Addr) (o : Ac) (ho : o.In) (hk : pkI o.kd 12 = 0) {r c : Int} {O : Nat → Prop} {R : World → World → Prop} (hO : ∀ i, O i → i < w.heap.size) (hQ : ∀ wA, Below w.heap.size w wA → Calls Tryz.prog 48 #[.pointer d, .int .i64 (pkI o.a 8), .int .i64 (pkI o.b 20 - 5), .int .i64 (pkI o.c 14 - 4), .int .i64 (1 + pkI o.d 12), .int .i64 (1 + pkI o.e 6)] wA fun e w' => e = .returned (.tuple #[.int .i64 r, .int .i64 c]) ∧ Keep O wA w' ∧ R wA w') :
    Calls Tryz.prog 17 #[.pointer d, o.agg] w fun e w' => e = .returned (.int .i64 c) ∧ ∃ wA, Below w.heap.size w wA ∧ R wA w' := by
  have HQ : Hid (∀ wA, Below w.heap.size w wA → Calls Tryz.prog 48 #[.pointer d, .int .i64 (pkI o.a 8), .int .i64 (pkI o.b 20 - 5), .int .i64 (pkI o.c 14 - 4), .int .i64 (1 + pkI o.d 12), .int .i64 (1 + pkI o.e 6)] wA fun e w' => e = .returned (.tuple #[.int .i64 r, .int .i64 c]) ∧ Keep O wA w' ∧ R wA w') := hQ
  have HO : Hid (∀ i, O i → i < w.heap.size) := hO
  have Ra : Hid (Rng o.a) := ho.a
  have Rb : Hid (Rng o.b) := ho.b
  have Rc : Hid (Rng o.c) := ho.c
  have Rd : Hid (Rng o.d) := ho.d
  have Re : Hid (Rng o.e) := ho.e
  have Rk : Hid (Rng o.kd) := ho.kd
  have lb20 := pkI_in o.b (n := 20) (by decide)
  have lc14 := pkI_in o.c (n := 14) (by decide)
  have ld12 := pkI_in o.d (n := 12) (by decide)
  have le6 := pkI_in o.e (n := 6) (by decide)
  have eD : IntKind.i64.wrap (1 + pkI o.d 12) = 1 + pkI o.d 12 := wrap_id _ (by omega) (by omega)
  have eE : IntKind.i64.wrap (1 + pkI o.e 6) = 1 + pkI o.e 6 := wrap_id _ (by omega) (by omega)
  obtain ⟨lb20x, lb20y⟩ := lb20
  obtain ⟨lc14x, lc14y⟩ := lc14
  obtain ⟨ld12x, ld12y⟩ := ld12
  obtain ⟨le6x, le6y⟩ := le6
  clear hQ hO ho
  obtain ⟨M, hM⟩ : ∃ M, w.heap.size = M := ⟨_, rfl⟩
  go_enter Tryz.func17, Tryz.ntmps17
  go_wp2_with fail
  have hA : ∃ wA, w.alloc (.cells o.arr 53) = wA ∧ wA.heap[M]? = some (.cells o.arr 53) ∧ Below w.heap.size w wA ∧ M < wA.heap.size := by
    subst hM
    exact ⟨_, rfl, heap_new _ _, (Below.refl _ _).alloc (Nat.le_refl _) _, by simp⟩
  obtain ⟨wA, hwA, bA, belA, zM⟩ := hA
  rw [hwA]
  have HB : Hid (Below w.heap.size w wA) := belA
  have nO : Hid (¬ O M) := fun q => by have := HO.out _ q; omega
  have k0 : wA.cell? ⟨M, 0, none⟩ = some (.int .i64 o.kd) := cell_of_block bA 0
  have k1 : wA.cell? ⟨M, 1, none⟩ = some (.int .i64 o.a) := cell_of_block bA 1
  have k2 : wA.cell? ⟨M, 2, none⟩ = some (.int .i64 o.b) := cell_of_block bA 2
  have k3 : wA.cell? ⟨M, 3, none⟩ = some (.int .i64 o.c) := cell_of_block bA 3
  have k4 : wA.cell? ⟨M, 4, none⟩ = some (.int .i64 o.d) := cell_of_block bA 4
  have k5 : wA.cell? ⟨M, 5, none⟩ = some (.int .i64 o.e) := cell_of_block bA 5
  have k6 : wA.cell? ⟨M, 6, none⟩ = some (.string o.s) := cell_of_block bA 6
  have k7 : wA.cell? ⟨M, 7, none⟩ = some (.int .i64 o.p.f) := cell_of_block bA 7
  have k8 : wA.cell? ⟨M, 8, none⟩ = some (.int .i64 o.p.b) := cell_of_block bA 8
  have k9 : wA.cell? ⟨M, 9, none⟩ = some (.bool o.p.bo) := cell_of_block bA 9
  have k10 : wA.cell? ⟨M, 10, none⟩ = some (.bool o.p.un) := cell_of_block bA 10
  have k11 : wA.cell? ⟨M, 11, none⟩ = some (.bool o.p.re) := cell_of_block bA 11
  have k12 : wA.cell? ⟨M, 12, none⟩ = some (.bool o.wb) := cell_of_block bA 12
  clear hwA bA belA HO hM
  go_at_call 16
  refine (kPkI _ _ _ (by decide) (by decide) (by first | exact Ra.out | exact Rb.out | exact Rc.out | exact Rd.out | exact Re.out | exact Rk.out)).mono ?_
  rintro e w' ⟨rfl, hw'⟩
  replace hw' := hw'.symm
  subst hw'
  go_wp2_with (first | (go_at_call 16; refine (kPkI _ _ _ (by decide) (by decide) (by first | exact Ra.out | exact Rb.out | exact Rc.out | exact Rd.out | exact Re.out | exact Rk.out)).mono ?_; rintro e w' ⟨rfl, hw'⟩; replace hw' := hw'.symm; subst hw'))
  clear k0 k1 k2 k3 k6 k7 k8 k9 k10 k11 k12 hk
  go_region_held3 (fun w' => w'.cell? ⟨M, 4, none⟩ = some (.int .i64 o.d) ∧ w'.cell? ⟨M, 5, none⟩ = some (.int .i64 o.e)) (simp [*]) (first | (go_at_call 16; refine (kPkI _ _ _ (by decide) (by decide) (by first | exact Ra.out | exact Rb.out | exact Rc.out | exact Rd.out | exact Re.out | exact Rk.out)).mono ?_; rintro e w' ⟨rfl, hw'⟩; replace hw' := hw'.symm; subst hw') | (go_at_call 48; refine (HQ.out _ (by first | exact HB.out | exact HB.out.drew)).mono ?_; rintro e w9 ⟨rfl, K9, hR⟩; have e9 := cell_same (K9.block M zM nO.out); have HR : Hid (∃ wA, Below w.heap.size w wA ∧ R wA w9) := ⟨_, (by first | exact HB.out | exact HB.out.drew), hR⟩; clear K9 hR))
  all_goals
    go_wp2_with fail
    go_ret
    exact ⟨rfl, HR.out⟩
set_option maxRecDepth 10000 in
set_option maxHeartbeats 4000000 in
theorem act1 {w : World} (d : Option Addr) (o : Ac) (ho : o.In) (hk : pkI o.kd 12 = 1) {r c : Int} {O : Nat → Prop} {R : World → World → Prop} (hO : ∀ i, O i → i < w.heap.size) (hQ : ∀ wA, Below w.heap.size w wA → Calls Tryz.prog 48 #[.pointer d, .int .i64 (pkI o.a 8), .int .i64 (pkI o.b 20 - 5), .int .i64 (pkI o.c 14 - 4), .int .i64 (1 + pkI o.d 12), .int .i64 (1 + pkI o.e 6)] wA fun e w' => e = .returned (.tuple #[.int .i64 r, .int .i64 c]) ∧ Keep O wA w' ∧ R wA w') :
    Calls Tryz.prog 17 #[.pointer d, o.agg] w fun e w' => e = .returned (.int .i64 c) ∧ ∃ wA, Below w.heap.size w wA ∧ R wA w' := by
  have HQ : Hid (∀ wA, Below w.heap.size w wA → Calls Tryz.prog 48 #[.pointer d, .int .i64 (pkI o.a 8), .int .i64 (pkI o.b 20 - 5), .int .i64 (pkI o.c 14 - 4), .int .i64 (1 + pkI o.d 12), .int .i64 (1 + pkI o.e 6)] wA fun e w' => e = .returned (.tuple #[.int .i64 r, .int .i64 c]) ∧ Keep O wA w' ∧ R wA w') := hQ
  have HO : Hid (∀ i, O i → i < w.heap.size) := hO
  have Ra : Hid (Rng o.a) := ho.a
  have Rb : Hid (Rng o.b) := ho.b
  have Rc : Hid (Rng o.c) := ho.c
  have Rd : Hid (Rng o.d) := ho.d
  have Re : Hid (Rng o.e) := ho.e
  have Rk : Hid (Rng o.kd) := ho.kd
  have lb20 := pkI_in o.b (n := 20) (by decide)
  have lc14 := pkI_in o.c (n := 14) (by decide)
  have ld12 := pkI_in o.d (n := 12) (by decide)
  have le6 := pkI_in o.e (n := 6) (by decide)
  have eD : IntKind.i64.wrap (1 + pkI o.d 12) = 1 + pkI o.d 12 := wrap_id _ (by omega) (by omega)
  have eE : IntKind.i64.wrap (1 + pkI o.e 6) = 1 + pkI o.e 6 := wrap_id _ (by omega) (by omega)
  obtain ⟨lb20x, lb20y⟩ := lb20
  obtain ⟨lc14x, lc14y⟩ := lc14
  obtain ⟨ld12x, ld12y⟩ := ld12
  obtain ⟨le6x, le6y⟩ := le6
  clear hQ hO ho
  obtain ⟨M, hM⟩ : ∃ M, w.heap.size = M := ⟨_, rfl⟩
  go_enter Tryz.func17, Tryz.ntmps17
  go_wp2_with fail
  have hA : ∃ wA, w.alloc (.cells o.arr 53) = wA ∧ wA.heap[M]? = some (.cells o.arr 53) ∧ Below w.heap.size w wA ∧ M < wA.heap.size := by
    subst hM
    exact ⟨_, rfl, heap_new _ _, (Below.refl _ _).alloc (Nat.le_refl _) _, by simp⟩
  obtain ⟨wA, hwA, bA, belA, zM⟩ := hA
  rw [hwA]
  have HB : Hid (Below w.heap.size w wA) := belA
  have nO : Hid (¬ O M) := fun q => by have := HO.out _ q; omega
  have k0 : wA.cell? ⟨M, 0, none⟩ = some (.int .i64 o.kd) := cell_of_block bA 0
  have k1 : wA.cell? ⟨M, 1, none⟩ = some (.int .i64 o.a) := cell_of_block bA 1
  have k2 : wA.cell? ⟨M, 2, none⟩ = some (.int .i64 o.b) := cell_of_block bA 2
  have k3 : wA.cell? ⟨M, 3, none⟩ = some (.int .i64 o.c) := cell_of_block bA 3
  have k4 : wA.cell? ⟨M, 4, none⟩ = some (.int .i64 o.d) := cell_of_block bA 4
  have k5 : wA.cell? ⟨M, 5, none⟩ = some (.int .i64 o.e) := cell_of_block bA 5
  have k6 : wA.cell? ⟨M, 6, none⟩ = some (.string o.s) := cell_of_block bA 6
  have k7 : wA.cell? ⟨M, 7, none⟩ = some (.int .i64 o.p.f) := cell_of_block bA 7
  have k8 : wA.cell? ⟨M, 8, none⟩ = some (.int .i64 o.p.b) := cell_of_block bA 8
  have k9 : wA.cell? ⟨M, 9, none⟩ = some (.bool o.p.bo) := cell_of_block bA 9
  have k10 : wA.cell? ⟨M, 10, none⟩ = some (.bool o.p.un) := cell_of_block bA 10
  have k11 : wA.cell? ⟨M, 11, none⟩ = some (.bool o.p.re) := cell_of_block bA 11
  have k12 : wA.cell? ⟨M, 12, none⟩ = some (.bool o.wb) := cell_of_block bA 12
  clear hwA bA belA HO hM
  go_at_call 16
  refine (kPkI _ _ _ (by decide) (by decide) (by first | exact Ra.out | exact Rb.out | exact Rc.out | exact Rd.out | exact Re.out | exact Rk.out)).mono ?_
  rintro e w' ⟨rfl, hw'⟩
  replace hw' := hw'.symm
  subst hw'
  go_wp2_with (first | (go_at_call 16; refine (kPkI _ _ _ (by decide) (by decide) (by first | exact Ra.out | exact Rb.out | exact Rc.out | exact Rd.out | exact Re.out | exact Rk.out)).mono ?_; rintro e w' ⟨rfl, hw'⟩; replace hw' := hw'.symm; subst hw'))
  clear k0 k1 k2 k3 k6 k7 k8 k9 k10 k11 k12 hk
  go_region_held3 (fun w' => w'.cell? ⟨M, 4, none⟩ = some (.int .i64 o.d) ∧ w'.cell? ⟨M, 5, none⟩ = some (.int .i64 o.e)) (simp [*]) (first | (go_at_call 16; refine (kPkI _ _ _ (by decide) (by decide) (by first | exact Ra.out | exact Rb.out | exact Rc.out | exact Rd.out | exact Re.out | exact Rk.out)).mono ?_; rintro e w' ⟨rfl, hw'⟩; replace hw' := hw'.symm; subst hw') | (go_at_call 48; refine (HQ.out _ (by first | exact HB.out | exact HB.out.drew)).mono ?_; rintro e w9 ⟨rfl, K9, hR⟩; have e9 := cell_same (K9.block M zM nO.out); have HR : Hid (∃ wA, Below w.heap.size w wA ∧ R wA w9) := ⟨_, (by first | exact HB.out | exact HB.out.drew), hR⟩; clear K9 hR))
  all_goals
    go_wp2_with fail
    go_ret
    exact ⟨rfl, HR.out⟩
end Go.Proofs.YtjlfibhbfdckpaaGreatDoor
