/- Texts of the proof, one behind the other: UdD, UdE, UdF, UdG, FwA, FwS. -/
import Derived.Test.YtjlfibhbfdckpaaGreatDoorK04
import Derived.Test.YtjlfibhbfdckpaaGreatDoorK06
import Derived.Test.YtjlfibhbfdckpaaGreatDoorK17
import Derived.Deep.QuietTactic
import Derived.BigQuiet
import Derived.Shelf.Strings.Builder1
import Derived.Shelf.Strings.Builder2
import Derived.Shelf.Strings.OnBuilder
import Derived.Shelf.Strconv.Itoa0
import Derived.Shelf.Strconv.Itoa1
import Derived.Shelf.LaysM
import Derived.Shelf.Strconv.Itoa2
import Derived.Shelf.Strconv.Itoa3
import Derived.Test.YtjlfibhbfdckpaaGreatDoorProg
/- The statements with the program's own screen: act, kind 4. -/
namespace Go.Proofs.YtjlfibhbfdckpaaGreatDoor
open Go.RowKit
attribute [local go_sem ↓] Go.wp_at_zero Go.wp_at_succ
set_option maxRecDepth 10000 in
set_option maxHeartbeats 4000000 in
theorem act4 {w : World} (d : Option Addr) (o : Ac) (ho : o.In) (hk : pkI o.kd 12 = 4) {c : Int} {O : Nat → Prop} {R : World → World → Prop} (hO : ∀ i, O i → i < w.heap.size) (hQ : ∀ wA, Below w.heap.size w wA → Calls Tryz.prog 51 #[.pointer d, .int .i64 (pkI o.a 8), .int .i64 (1 + pkI o.d 12), .int .i64 (1 + pkI o.e 6)] wA fun e w' => e = .returned (.int .i64 c) ∧ Keep O wA w' ∧ R wA w') :
    Calls Tryz.prog 17 #[.pointer d, o.agg] w fun e w' => e = .returned (.int .i64 c) ∧ ∃ wA, Below w.heap.size w wA ∧ R wA w' := by
  have HQ : Hid (∀ wA, Below w.heap.size w wA → Calls Tryz.prog 51 #[.pointer d, .int .i64 (pkI o.a 8), .int .i64 (1 + pkI o.d 12), .int .i64 (1 + pkI o.e 6)] wA fun e w' => e = .returned (.int .i64 c) ∧ Keep O wA w' ∧ R wA w') := hQ
  have HO : Hid (∀ i, O i → i < w.heap.size) := hO
  have Ra : Hid (Rng o.a) := ho.a
  have Rb : Hid (Rng o.b) := ho.b
  have Rc : Hid (Rng o.c) := ho.c
  have Rd : Hid (Rng o.d) := ho.d
  have Re : Hid (Rng o.e) := ho.e
  have Rk : Hid (Rng o.kd) := ho.kd
  have lb20 := pkI_in o.b (n := 20) (by decide)
  have lc14 := pkI_in o.c (n := 14) (by decide)
  have ld12 := pkI_in o.d (n := 12) (by decide)
  have le6 := pkI_in o.e (n := 6) (by decide)
  have eD : IntKind.i64.wrap (1 + pkI o.d 12) = 1 + pkI o.d 12 := wrap_id _ (by omega) (by omega)
  have eE : IntKind.i64.wrap (1 + pkI o.e 6) = 1 + pkI o.e 6 := wrap_id _ (by omega) (by omega)
  obtain ⟨lb20x, lb20y⟩ := lb20
  obtain ⟨lc14x, lc14y⟩ := lc14
  obtain ⟨ld12x, ld12y⟩ := ld12
  obtain ⟨le6x, le6y⟩ := le6
  clear hQ hO ho
  obtain ⟨M, hM⟩ : ∃ M, w.heap.size = M := ⟨_, rfl⟩
  go_enter Tryz.func17, Tryz.ntmps17
  go_wp2_with fail
  have hA : ∃ wA, w.alloc (.cells o.arr 53) = wA ∧ wA.heap[M]? = some (.cells o.arr 53) ∧ Below w.heap.size w wA ∧ M < wA.heap.size := by
    subst hM
    exact ⟨_, rfl, heap_new _ _, (Below.refl _ _).alloc (Nat.le_refl _) _, by simp⟩
  obtain ⟨wA, hwA, bA, belA, zM⟩ := hA
  rw [hwA]
  have HB : Hid (Below w.heap.size w wA) := belA
  have nO : Hid (¬ O M) := fun q => by have := HO.out _ q; omega
  have k0 : wA.cell? ⟨M, 0, none⟩ = some (.int .i64 o.kd) := cell_of_block bA 0
  have k1 : wA.cell? ⟨M, 1, none⟩ = some (.int .i64 o.a) := cell_of_block bA 1
  have k2 : wA.cell? ⟨M, 2, none⟩ = some (.int .i64 o.b) := cell_of_block bA 2
  have k3 : wA.cell? ⟨M, 3, none⟩ = some (.int .i64 o.c) := cell_of_block bA 3
  have k4 : wA.cell? ⟨M, 4, none⟩ = some (.int .i64 o.d) := cell_of_block bA 4
  have k5 : wA.cell? ⟨M, 5, none⟩ = some (.int .i64 o.e) := cell_of_block bA 5
  have k6 : wA.cell? ⟨M, 6, none⟩ = some (.string o.s) := cell_of_block bA 6
  have k7 : wA.cell? ⟨M, 7, none⟩ = some (.int .i64 o.p.f) := cell_of_block bA 7
  have k8 : wA.cell? ⟨M, 8, none⟩ = some (.int .i64 o.p.b) := cell_of_block bA 8
  have k9 : wA.cell? ⟨M, 9, none⟩ = some (.bool o.p.bo) := cell_of_block bA 9
  have k10 : wA.cell? ⟨M, 10, none⟩ = some (.bool o.p.un) := cell_of_block bA 10
  have k11 : wA.cell? ⟨M, 11, none⟩ = some (.bool o.p.re) := cell_of_block bA 11
  have k12 : wA.cell? ⟨M, 12, none⟩ = some (.bool o.wb) := cell_of_block bA 12
  clear hwA bA belA HO hM
  go_at_call 16
  refine (kPkI _ _ _ (by decide) (by decide) (by first | exact Ra.out | exact Rb.out | exact Rc.out | exact Rd.out | exact Re.out | exact Rk.out)).mono ?_
  rintro e w' ⟨rfl, hw'⟩
  replace hw' := hw'.symm
  subst hw'
  go_wp2_with (first | (go_at_call 16; refine (kPkI _ _ _ (by decide) (by decide) (by first | exact Ra.out | exact Rb.out | exact Rc.out | exact Rd.out | exact Re.out | exact Rk.out)).mono ?_; rintro e w' ⟨rfl, hw'⟩; replace hw' := hw'.symm; subst hw'))
  clear k0 k1 k2 k3 k6 k7 k8 k9 k10 k11 k12 hk
  go_region_held3 (fun w' => w'.cell? ⟨M, 4, none⟩ = some (.int .i64 o.d) ∧ w'.cell? ⟨M, 5, none⟩ = some (.int .i64 o.e)) (simp [*]) (first | (go_at_call 16; refine (kPkI _ _ _ (by decide) (by decide) (by first | exact Ra.out | exact Rb.out | exact Rc.out | exact Rd.out | exact Re.out | exact Rk.out)).mono ?_; rintro e w' ⟨rfl, hw'⟩; replace hw' := hw'.symm; subst hw') | (go_at_call 51; refine (HQ.out _ (by first | exact HB.out | exact HB.out.drew)).mono ?_; rintro e w9 ⟨rfl, K9, hR⟩; have e9 := cell_same (K9.block M zM nO.out); have HR : Hid (∃ wA, Below w.heap.size w wA ∧ R wA w9) := ⟨_, (by first | exact HB.out | exact HB.out.drew), hR⟩; clear K9 hR))
  all_goals
    go_wp2_with fail
    go_ret
    exact ⟨rfl, HR.out⟩
end Go.Proofs.YtjlfibhbfdckpaaGreatDoor

/- The statements with the program's own screen: act, kind 8, 9. -/
namespace Go.Proofs.YtjlfibhbfdckpaaGreatDoor
open Go.RowKit
attribute [local go_sem ↓] Go.wp_at_zero Go.wp_at_succ
set_option maxRecDepth 10000 in
set_option maxHeartbeats 4000000 in
theorem act8 {w : World} (d : Option Addr) (o : Ac) (ho : o.In) (hk : pkI o.kd 12 = 8) {c : Int} {O : Nat → Prop} {R : World → World → Prop} (hO : ∀ i, O i → i < w.heap.size) (hQ : ∀ wA, Below w.heap.size w wA → Calls Tryz.prog 31 #[.pointer d, .int .i64 (pkI o.a 8), .int .i64 (pkI o.b 20 - 5), .int .i64 (pkI o.c 14 - 4), .string (shortK o.s), (penK o.p).agg] wA fun e w' => e = .returned (.int .i64 c) ∧ Keep O wA w' ∧ R wA w') :
    Calls Tryz.prog 17 #[.pointer d, o.agg] w fun e w' => e = .returned (.int .i64 c) ∧ ∃ wA, Below w.heap.size w wA ∧ R wA w' := by
  have HQ : Hid (∀ wA, Below w.heap.size w wA → Calls Tryz.prog 31 #[.pointer d, .int .i64 (pkI o.a 8), .int .i64 (pkI o.b 20 - 5), .int .i64 (pkI o.c 14 - 4), .string (shortK o.s), (penK o.p).agg] wA fun e w' => e = .returned (.int .i64 c) ∧ Keep O wA w' ∧ R wA w') := hQ
  have HO : Hid (∀ i, O i → i < w.heap.size) := hO
  have Ra : Hid (Rng o.a) := ho.a
  have Rb : Hid (Rng o.b) := ho.b
  have Rc : Hid (Rng o.c) := ho.c
  have Rd : Hid (Rng o.d) := ho.d
  have Re : Hid (Rng o.e) := ho.e
  have Rk : Hid (Rng o.kd) := ho.kd
  have lb20 := pkI_in o.b (n := 20) (by decide)
  have lc14 := pkI_in o.c (n := 14) (by decide)
  obtain ⟨lb20x, lb20y⟩ := lb20
  obtain ⟨lc14x, lc14y⟩ := lc14
  have PS : Hid (∀ w, Calls Tryz.prog 55 #[.string o.s, .int .i64 40] w fun e w' => e = .returned (.string (shortK o.s)) ∧ w' = w) := fun w => kShort o.s w ho.sz
  have PP : Hid (∀ w, Calls Tryz.prog 56 #[o.p.agg] w fun e w' => e = .returned (penK o.p).agg ∧ Below w.heap.size w w') := fun w => kPen o.p w ho.f.1 ho.f.2 ho.g.1 ho.g.2
  generalize shortK o.s = sk at *
  generalize penK o.p = pk at *
  clear hQ hO ho
  obtain ⟨M, hM⟩ : ∃ M, w.heap.size = M := ⟨_, rfl⟩
  go_enter Tryz.func17, Tryz.ntmps17
  go_wp2_with fail
  have hA : ∃ wA, w.alloc (.cells o.arr 53) = wA ∧ wA.heap[M]? = some (.cells o.arr 53) ∧ Below w.heap.size w wA ∧ M < wA.heap.size := by
    subst hM
    exact ⟨_, rfl, heap_new _ _, (Below.refl _ _).alloc (Nat.le_refl _) _, by simp⟩
  obtain ⟨wA, hwA, bA, belA, zM⟩ := hA
  rw [hwA]
  have HB : Hid (Below w.heap.size w wA) := belA
  have nO : Hid (¬ O M) := fun q => by have := HO.out _ q; omega
  have k0 : wA.cell? ⟨M, 0, none⟩ = some (.int .i64 o.kd) := cell_of_block bA 0
  have k1 : wA.cell? ⟨M, 1, none⟩ = some (.int .i64 o.a) := cell_of_block bA 1
  have k2 : wA.cell? ⟨M, 2, none⟩ = some (.int .i64 o.b) := cell_of_block bA 2
  have k3 : wA.cell? ⟨M, 3, none⟩ = some (.int .i64 o.c) := cell_of_block bA 3
  have k4 : wA.cell? ⟨M, 4, none⟩ = some (.int .i64 o.d) := cell_of_block bA 4
  have k5 : wA.cell? ⟨M, 5, none⟩ = some (.int .i64 o.e) := cell_of_block bA 5
  have k6 : wA.cell? ⟨M, 6, none⟩ = some (.string o.s) := cell_of_block bA 6
  have k7 : wA.cell? ⟨M, 7, none⟩ = some (.int .i64 o.p.f) := cell_of_block bA 7
  have k8 : wA.cell? ⟨M, 8, none⟩ = some (.int .i64 o.p.b) := cell_of_block bA 8
  have k9 : wA.cell? ⟨M, 9, none⟩ = some (.bool o.p.bo) := cell_of_block bA 9
  have k10 : wA.cell? ⟨M, 10, none⟩ = some (.bool o.p.un) := cell_of_block bA 10
  have k11 : wA.cell? ⟨M, 11, none⟩ = some (.bool o.p.re) := cell_of_block bA 11
  have k12 : wA.cell? ⟨M, 12, none⟩ = some (.bool o.wb) := cell_of_block bA 12
  clear hwA bA belA HO hM
  go_at_call 16
  refine (kPkI _ _ _ (by decide) (by decide) (by first | exact Ra.out | exact Rb.out | exact Rc.out | exact Rd.out | exact Re.out | exact Rk.out)).mono ?_
  rintro e w' ⟨rfl, hw'⟩
  replace hw' := hw'.symm
  subst hw'
  go_wp2_with (first | (go_at_call 16; refine (kPkI _ _ _ (by decide) (by decide) (by first | exact Ra.out | exact Rb.out | exact Rc.out | exact Rd.out | exact Re.out | exact Rk.out)).mono ?_; rintro e w' ⟨rfl, hw'⟩; replace hw' := hw'.symm; subst hw'))
  clear k0 k1 k2 k3 k4 k5 k12 hk
  go_region_held3 (fun w' => w'.cell? ⟨M, 6, none⟩ = some (.string o.s) ∧ w'.cell? ⟨M, 7, none⟩ = some (.int .i64 o.p.f) ∧ w'.cell? ⟨M, 8, none⟩ = some (.int .i64 o.p.b) ∧ w'.cell? ⟨M, 9, none⟩ = some (.bool o.p.bo) ∧ w'.cell? ⟨M, 10, none⟩ = some (.bool o.p.un) ∧ w'.cell? ⟨M, 11, none⟩ = some (.bool o.p.re)) (simp [*]) (first | (go_at_call 55; refine (PS.out _).mono ?_; rintro e w' ⟨rfl, hw'⟩; replace hw' := hw'.symm; subst hw') | (go_at_call 56; refine (PP.out _).mono ?_; rintro e w7 ⟨rfl, hb7⟩; have hb8 := below_drew' hb7; have e4 := hb8.cells (b := M) zM; have z7 : M < w7.heap.size := Nat.lt_of_lt_of_le zM hb8.size; have HB7 : Hid (Below w.heap.size w w7) := HB.out.trans (hb8.mono HB.out.size); clear hb7 hb8) | (go_at_call 31; refine (HQ.out _ (by first | exact HB7.out | exact HB7.out.drew | exact HB.out | exact HB.out.drew)).mono ?_; rintro e w9 ⟨rfl, K9, hR⟩; have e9 := cell_same (K9.block M (by first | exact z7 | exact zM) nO.out); have HR : Hid (∃ wA, Below w.heap.size w wA ∧ R wA w9) := ⟨_, (by first | exact HB7.out | exact HB7.out.drew | exact HB.out | exact HB.out.drew), hR⟩; clear K9 hR))
  all_goals
    go_wp2_with fail
    go_ret
    exact ⟨rfl, HR.out⟩
set_option maxRecDepth 10000 in
set_option maxHeartbeats 4000000 in
theorem act9 {w : World} (d : Option Addr) (o : Ac) (ho : o.In) (hk : pkI o.kd 12 = 9) {c : Int} {O : Nat → Prop} {R : World → World → Prop} (hO : ∀ i, O i → i < w.heap.size) (hQ : ∀ wA, Below w.heap.size w wA → Calls Tryz.prog 31 #[.pointer d, .int .i64 (pkI o.a 8), .int .i64 (pkI o.b 20 - 5), .int .i64 (pkI o.c 14 - 4), .string (shortK o.s), (penK o.p).agg] wA fun e w' => e = .returned (.int .i64 c) ∧ Keep O wA w' ∧ R wA w') :
    Calls Tryz.prog 17 #[.pointer d, o.agg] w fun e w' => e = .returned (.int .i64 c) ∧ ∃ wA, Below w.heap.size w wA ∧ R wA w' := by
  have HQ : Hid (∀ wA, Below w.heap.size w wA → Calls Tryz.prog 31 #[.pointer d, .int .i64 (pkI o.a 8), .int .i64 (pkI o.b 20 - 5), .int .i64 (pkI o.c 14 - 4), .string (shortK o.s), (penK o.p).agg] wA fun e w' => e = .returned (.int .i64 c) ∧ Keep O wA w' ∧ R wA w') := hQ
  have HO : Hid (∀ i, O i → i < w.heap.size) := hO
  have Ra : Hid (Rng o.a) := ho.a
  have Rb : Hid (Rng o.b) := ho.b
  have Rc : Hid (Rng o.c) := ho.c
  have Rd : Hid (Rng o.d) := ho.d
  have Re : Hid (Rng o.e) := ho.e
  have Rk : Hid (Rng o.kd) := ho.kd
  have lb20 := pkI_in o.b (n := 20) (by decide)
  have lc14 := pkI_in o.c (n := 14) (by decide)
  obtain ⟨lb20x, lb20y⟩ := lb20
  obtain ⟨lc14x, lc14y⟩ := lc14
  have PS : Hid (∀ w, Calls Tryz.prog 55 #[.string o.s, .int .i64 40] w fun e w' => e = .returned (.string (shortK o.s)) ∧ w' = w) := fun w => kShort o.s w ho.sz
  have PP : Hid (∀ w, Calls Tryz.prog 56 #[o.p.agg] w fun e w' => e = .returned (penK o.p).agg ∧ Below w.heap.size w w') := fun w => kPen o.p w ho.f.1 ho.f.2 ho.g.1 ho.g.2
  generalize shortK o.s = sk at *
  generalize penK o.p = pk at *
  clear hQ hO ho
  obtain ⟨M, hM⟩ : ∃ M, w.heap.size = M := ⟨_, rfl⟩
  go_enter Tryz.func17, Tryz.ntmps17
  go_wp2_with fail
  have hA : ∃ wA, w.alloc (.cells o.arr 53) = wA ∧ wA.heap[M]? = some (.cells o.arr 53) ∧ Below w.heap.size w wA ∧ M < wA.heap.size := by
    subst hM
    exact ⟨_, rfl, heap_new _ _, (Below.refl _ _).alloc (Nat.le_refl _) _, by simp⟩
  obtain ⟨wA, hwA, bA, belA, zM⟩ := hA
  rw [hwA]
  have HB : Hid (Below w.heap.size w wA) := belA
  have nO : Hid (¬ O M) := fun q => by have := HO.out _ q; omega
  have k0 : wA.cell? ⟨M, 0, none⟩ = some (.int .i64 o.kd) := cell_of_block bA 0
  have k1 : wA.cell? ⟨M, 1, none⟩ = some (.int .i64 o.a) := cell_of_block bA 1
  have k2 : wA.cell? ⟨M, 2, none⟩ = some (.int .i64 o.b) := cell_of_block bA 2
  have k3 : wA.cell? ⟨M, 3, none⟩ = some (.int .i64 o.c) := cell_of_block bA 3
  have k4 : wA.cell? ⟨M, 4, none⟩ = some (.int .i64 o.d) := cell_of_block bA 4
  have k5 : wA.cell? ⟨M, 5, none⟩ = some (.int .i64 o.e) := cell_of_block bA 5
  have k6 : wA.cell? ⟨M, 6, none⟩ = some (.string o.s) := cell_of_block bA 6
  have k7 : wA.cell? ⟨M, 7, none⟩ = some (.int .i64 o.p.f) := cell_of_block bA 7
  have k8 : wA.cell? ⟨M, 8, none⟩ = some (.int .i64 o.p.b) := cell_of_block bA 8
  have k9 : wA.cell? ⟨M, 9, none⟩ = some (.bool o.p.bo) := cell_of_block bA 9
  have k10 : wA.cell? ⟨M, 10, none⟩ = some (.bool o.p.un) := cell_of_block bA 10
  have k11 : wA.cell? ⟨M, 11, none⟩ = some (.bool o.p.re) := cell_of_block bA 11
  have k12 : wA.cell? ⟨M, 12, none⟩ = some (.bool o.wb) := cell_of_block bA 12
  clear hwA bA belA HO hM
  go_at_call 16
  refine (kPkI _ _ _ (by decide) (by decide) (by first | exact Ra.out | exact Rb.out | exact Rc.out | exact Rd.out | exact Re.out | exact Rk.out)).mono ?_
  rintro e w' ⟨rfl, hw'⟩
  replace hw' := hw'.symm
  subst hw'
  go_wp2_with (first | (go_at_call 16; refine (kPkI _ _ _ (by decide) (by decide) (by first | exact Ra.out | exact Rb.out | exact Rc.out | exact Rd.out | exact Re.out | exact Rk.out)).mono ?_; rintro e w' ⟨rfl, hw'⟩; replace hw' := hw'.symm; subst hw'))
  clear k0 k1 k2 k3 k4 k5 k12 hk
  go_region_held3 (fun w' => w'.cell? ⟨M, 6, none⟩ = some (.string o.s) ∧ w'.cell? ⟨M, 7, none⟩ = some (.int .i64 o.p.f) ∧ w'.cell? ⟨M, 8, none⟩ = some (.int .i64 o.p.b) ∧ w'.cell? ⟨M, 9, none⟩ = some (.bool o.p.bo) ∧ w'.cell? ⟨M, 10, none⟩ = some (.bool o.p.un) ∧ w'.cell? ⟨M, 11, none⟩ = some (.bool o.p.re)) (simp [*]) (first | (go_at_call 55; refine (PS.out _).mono ?_; rintro e w' ⟨rfl, hw'⟩; replace hw' := hw'.symm; subst hw') | (go_at_call 56; refine (PP.out _).mono ?_; rintro e w7 ⟨rfl, hb7⟩; have hb8 := below_drew' hb7; have e4 := hb8.cells (b := M) zM; have z7 : M < w7.heap.size := Nat.lt_of_lt_of_le zM hb8.size; have HB7 : Hid (Below w.heap.size w w7) := HB.out.trans (hb8.mono HB.out.size); clear hb7 hb8) | (go_at_call 31; refine (HQ.out _ (by first | exact HB7.out | exact HB7.out.drew | exact HB.out | exact HB.out.drew)).mono ?_; rintro e w9 ⟨rfl, K9, hR⟩; have e9 := cell_same (K9.block M (by first | exact z7 | exact zM) nO.out); have HR : Hid (∃ wA, Below w.heap.size w wA ∧ R wA w9) := ⟨_, (by first | exact HB7.out | exact HB7.out.drew | exact HB.out | exact HB.out.drew), hR⟩; clear K9 hR))
  all_goals
    go_wp2_with fail
    go_ret
    exact ⟨rfl, HR.out⟩
end Go.Proofs.YtjlfibhbfdckpaaGreatDoor

/- The statements with the program's own screen: act, kind 10. -/
namespace Go.Proofs.YtjlfibhbfdckpaaGreatDoor
open Go.RowKit
attribute [local go_sem ↓] Go.wp_at_zero Go.wp_at_succ
set_option maxRecDepth 10000 in
set_option maxHeartbeats 4000000 in
theorem act10 {w : World} (d : Option Addr) (o : Ac) (ho : o.In) (hk : pkI o.kd 12 = 10) {c : Int} {O : Nat → Prop} {R : World → World → Prop} (hO : ∀ i, O i → i < w.heap.size) (hQ : ∀ wA, Below w.heap.size w wA → Calls Tryz.prog 33 #[.pointer d, .int .i64 (pkI o.a 8), .int .i64 (pkI o.b 20 - 5), .int .i64 (pkI o.c 14 - 4), .int .i64 (pkI o.d 12), .int .i64 (pkI o.e 6), (penK o.p).agg] wA fun e w' => e = .returned (.int .i64 c) ∧ Keep O wA w' ∧ R wA w') :
    Calls Tryz.prog 17 #[.pointer d, o.agg] w fun e w' => e = .returned (.int .i64 c) ∧ ∃ wA, Below w.heap.size w wA ∧ R wA w' := by
  have HQ : Hid (∀ wA, Below w.heap.size w wA → Calls Tryz.prog 33 #[.pointer d, .int .i64 (pkI o.a 8), .int .i64 (pkI o.b 20 - 5), .int .i64 (pkI o.c 14 - 4), .int .i64 (pkI o.d 12), .int .i64 (pkI o.e 6), (penK o.p).agg] wA fun e w' => e = .returned (.int .i64 c) ∧ Keep O wA w' ∧ R wA w') := hQ
  have HO : Hid (∀ i, O i → i < w.heap.size) := hO
  have Ra : Hid (Rng o.a) := ho.a
  have Rb : Hid (Rng o.b) := ho.b
  have Rc : Hid (Rng o.c) := ho.c
  have Rd : Hid (Rng o.d) := ho.d
  have Re : Hid (Rng o.e) := ho.e
  have Rk : Hid (Rng o.kd) := ho.kd
  have lb20 := pkI_in o.b (n := 20) (by decide)
  have lc14 := pkI_in o.c (n := 14) (by decide)
  have ld12 := pkI_in o.d (n := 12) (by decide)
  have le6 := pkI_in o.e (n := 6) (by decide)
  obtain ⟨lb20x, lb20y⟩ := lb20
  obtain ⟨lc14x, lc14y⟩ := lc14
  obtain ⟨ld12x, ld12y⟩ := ld12
  obtain ⟨le6x, le6y⟩ := le6
  have PP : Hid (∀ w, Calls Tryz.prog 56 #[o.p.agg] w fun e w' => e = .returned (penK o.p).agg ∧ Below w.heap.size w w') := fun w => kPen o.p w ho.f.1 ho.f.2 ho.g.1 ho.g.2
  generalize penK o.p = pk at *
  clear hQ hO ho
  obtain ⟨M, hM⟩ : ∃ M, w.heap.size = M := ⟨_, rfl⟩
  go_enter Tryz.func17, Tryz.ntmps17
  go_wp2_with fail
  have hA : ∃ wA, w.alloc (.cells o.arr 53) = wA ∧ wA.heap[M]? = some (.cells o.arr 53) ∧ Below w.heap.size w wA ∧ M < wA.heap.size := by
    subst hM
    exact ⟨_, rfl, heap_new _ _, (Below.refl _ _).alloc (Nat.le_refl _) _, by simp⟩
  obtain ⟨wA, hwA, bA, belA, zM⟩ := hA
  rw [hwA]
  have HB : Hid (Below w.heap.size w wA) := belA
  have nO : Hid (¬ O M) := fun q => by have := HO.out _ q; omega
  have k0 : wA.cell? ⟨M, 0, none⟩ = some (.int .i64 o.kd) := cell_of_block bA 0
  have k1 : wA.cell? ⟨M, 1, none⟩ = some (.int .i64 o.a) := cell_of_block bA 1
  have k2 : wA.cell? ⟨M, 2, none⟩ = some (.int .i64 o.b) := cell_of_block bA 2
  have k3 : wA.cell? ⟨M, 3, none⟩ = some (.int .i64 o.c) := cell_of_block bA 3
  have k4 : wA.cell? ⟨M, 4, none⟩ = some (.int .i64 o.d) := cell_of_block bA 4
  have k5 : wA.cell? ⟨M, 5, none⟩ = some (.int .i64 o.e) := cell_of_block bA 5
  have k6 : wA.cell? ⟨M, 6, none⟩ = some (.string o.s) := cell_of_block bA 6
  have k7 : wA.cell? ⟨M, 7, none⟩ = some (.int .i64 o.p.f) := cell_of_block bA 7
  have k8 : wA.cell? ⟨M, 8, none⟩ = some (.int .i64 o.p.b) := cell_of_block bA 8
  have k9 : wA.cell? ⟨M, 9, none⟩ = some (.bool o.p.bo) := cell_of_block bA 9
  have k10 : wA.cell? ⟨M, 10, none⟩ = some (.bool o.p.un) := cell_of_block bA 10
  have k11 : wA.cell? ⟨M, 11, none⟩ = some (.bool o.p.re) := cell_of_block bA 11
  have k12 : wA.cell? ⟨M, 12, none⟩ = some (.bool o.wb) := cell_of_block bA 12
  clear hwA bA belA HO hM
  go_at_call 16
  refine (kPkI _ _ _ (by decide) (by decide) (by first | exact Ra.out | exact Rb.out | exact Rc.out | exact Rd.out | exact Re.out | exact Rk.out)).mono ?_
  rintro e w' ⟨rfl, hw'⟩
  replace hw' := hw'.symm
  subst hw'
  go_wp2_with (first | (go_at_call 16; refine (kPkI _ _ _ (by decide) (by decide) (by first | exact Ra.out | exact Rb.out | exact Rc.out | exact Rd.out | exact Re.out | exact Rk.out)).mono ?_; rintro e w' ⟨rfl, hw'⟩; replace hw' := hw'.symm; subst hw'))
  clear k0 k1 k2 k3 k6 k12 hk
  go_region_held3 (fun w' => w'.cell? ⟨M, 4, none⟩ = some (.int .i64 o.d) ∧ w'.cell? ⟨M, 5, none⟩ = some (.int .i64 o.e) ∧ w'.cell? ⟨M, 7, none⟩ = some (.int .i64 o.p.f) ∧ w'.cell? ⟨M, 8, none⟩ = some (.int .i64 o.p.b) ∧ w'.cell? ⟨M, 9, none⟩ = some (.bool o.p.bo) ∧ w'.cell? ⟨M, 10, none⟩ = some (.bool o.p.un) ∧ w'.cell? ⟨M, 11, none⟩ = some (.bool o.p.re)) (simp [*]) (first | (go_at_call 16; refine (kPkI _ _ _ (by decide) (by decide) (by first | exact Ra.out | exact Rb.out | exact Rc.out | exact Rd.out | exact Re.out | exact Rk.out)).mono ?_; rintro e w' ⟨rfl, hw'⟩; replace hw' := hw'.symm; subst hw') | (go_at_call 56; refine (PP.out _).mono ?_; rintro e w7 ⟨rfl, hb7⟩; have hb8 := below_drew' hb7; have e4 := hb8.cells (b := M) zM; have z7 : M < w7.heap.size := Nat.lt_of_lt_of_le zM hb8.size; have HB7 : Hid (Below w.heap.size w w7) := HB.out.trans (hb8.mono HB.out.size); clear hb7 hb8) | (go_at_call 33; refine (HQ.out _ (by first | exact HB7.out | exact HB7.out.drew | exact HB.out | exact HB.out.drew)).mono ?_; rintro e w9 ⟨rfl, K9, hR⟩; have e9 := cell_same (K9.block M (by first | exact z7 | exact zM) nO.out); have HR : Hid (∃ wA, Below w.heap.size w wA ∧ R wA w9) := ⟨_, (by first | exact HB7.out | exact HB7.out.drew | exact HB.out | exact HB.out.drew), hR⟩; clear K9 hR))
  all_goals
    go_wp2_with fail
    go_ret
    exact ⟨rfl, HR.out⟩
end Go.Proofs.YtjlfibhbfdckpaaGreatDoor

/- The statements with the program's own screen: act, whatever it is. -/
namespace Go.Proofs.YtjlfibhbfdckpaaGreatDoor
open Go.RowKit
theorem DPostG.back {M : Mm} {L L' : List Wn} {last' : Int} {s' : Rs} {t' : Pt} {w wA w' : World} {r r2 : Value} {e : Ending} (h : DPostG M L L' last' s' t' wA r e w') (b : Below w.heap.size w wA) : DPostG M L L' last' s' t' w r2 (.returned r2) w' := by
  obtain ⟨M', N', _, D, ht, K, O⟩ := h
  exact ⟨M', N', rfl, D, ht, (Keep.below _ b).trans K (fun _ _ q => q), fun i hi => (O i hi).imp id (fun e => by have := b.size; omega)⟩
/-- What a step makes of a desk. -/
structure Ax (o : Ac) (L : List Wn) (last : Int) (L' : List Wn) (last' : Int) (c : Int) : Prop where
  ok : DOk L' last'
  le : last ≤ last' ∧ last' ≤ last + 1
  pens : PensOk L → PensOk L'
  fit : ∀ W H : Nat, Fits L W H → Fits L' W H
  err : c ≠ 0 → L' = L ∧ last' = last
  x : ∀ (w : World) (M : Mm) (N : Nat) (s : Rs) (t : Pt), s.Ok → DkAt w M L last N s t → Calls Tryz.prog 17 #[.pointer (some ⟨M.t 0, 0, none⟩), o.agg] w (DPostG M L L' last' s t w (.int .i64 c))
theorem Ax.of {o : Ac} {L : List Wn} {last : Int} {fx : Nat} {a : Option Addr → Array Value} {L' : List Wn} {last' : Int} {r : Value} {c : Int} (T : Tx fx a L last L' last' r c id)
    (hact : ∀ (w : World) (d : Option Addr) (O : Nat → Prop) (R : World → World → Prop), (∀ i, O i → i < w.heap.size) → (∀ wA, Below w.heap.size w wA → Calls Tryz.prog fx (a d) wA fun e w' => e = .returned r ∧ Keep O wA w' ∧ R wA w') → Calls Tryz.prog 17 #[.pointer d, o.agg] w fun e w' => e = .returned (.int .i64 c) ∧ ∃ wA, Below w.heap.size w wA ∧ R wA w') : Ax o L last L' last' c := by
  refine ⟨T.ok, T.le, T.pens, fun W H h => T.fit ⟨W, H, 0, 0, false, Pn.plain, 0, 0, ⟨#[]⟩, 0, fun _ _ => blk Pn.plain⟩ h, T.err, fun w M N s t hs h => ?_⟩
  refine (hact w (some ⟨M.t 0, 0, none⟩) (M.own L) (fun wA w' => DPostG M L L' last' s t wA r (.returned r) w') (fun i hi => h.lt hi) (fun wA hb => (T.x wA M N s t hs (h.below hb)).mono ?_)).mono ?_
  · rintro e w' ⟨M', N', rfl, D, ht, K, O⟩
    exact ⟨rfl, K, M', N', rfl, D, ht, K, O⟩
  · rintro e w' ⟨rfl, wA, hb, hp⟩
    exact hp.back hb
theorem act_ex {L : List Wn} {last : Int} (ok : DOk L last) (l0 : 0 ≤ last) (hl : last < 9223372036854775807) (o : Ac) (ho : o.In) : ∃ L' last' c, Ax o L last L' last' c := by
  obtain ⟨h0, h1⟩ := pkI_in o.kd (n := 12) (by decide)
  rcases (by omega : pkI o.kd 12 = 0 ∨ pkI o.kd 12 = 1 ∨ pkI o.kd 12 = 2 ∨ pkI o.kd 12 = 3 ∨ pkI o.kd 12 = 4 ∨ pkI o.kd 12 = 5 ∨ pkI o.kd 12 = 6 ∨ pkI o.kd 12 = 7 ∨ pkI o.kd 12 = 8 ∨ pkI o.kd 12 = 9 ∨ pkI o.kd 12 = 10 ∨ pkI o.kd 12 = 11) with hk | hk | hk | hk | hk | hk | hk | hk | hk | hk | hk | hk
  · obtain ⟨L', last', a, c, T⟩ := txCreate ok l0 hl (pkI o.a 8) (pkI o.b 20 - 5) (pkI o.c 14 - 4) (1 + pkI o.d 12) (1 + pkI o.e 6)
    exact ⟨L', last', c, .of T (fun w d O R hO hQ => act0 d o ho hk hO hQ)⟩
  · obtain ⟨L', last', a, c, T⟩ := txCreate ok l0 hl (pkI o.a 8) (pkI o.b 20 - 5) (pkI o.c 14 - 4) (1 + pkI o.d 12) (1 + pkI o.e 6)
    exact ⟨L', last', c, .of T (fun w d O R hO hQ => act1 d o ho hk hO hQ)⟩
  · obtain ⟨L', c, T⟩ := txDelete ok (pkI o.a 8)
    exact ⟨L', last, c, .of T (fun w d O R hO hQ => act2 d o ho hk hO hQ)⟩
  · obtain ⟨L', c, T⟩ := txMove ok (pkI o.a 8) (pkI o.b 20 - 5) (pkI o.c 14 - 4)
    exact ⟨L', last, c, .of T (fun w d O R hO hQ => act3 d o ho hk hO hQ)⟩
  · obtain ⟨L', c, T⟩ := txShape ok (pkI o.a 8) (1 + pkI o.d 12) (1 + pkI o.e 6)
    exact ⟨L', last, c, .of T (fun w d O R hO hQ => act4 d o ho hk hO hQ)⟩
  · obtain ⟨L', c, T⟩ := txRaise ok (pkI o.a 8) o.wb
    exact ⟨L', last, c, .of T (fun w d O R hO hQ => act5 d o ho hk hO hQ)⟩
  · obtain ⟨L', c, T⟩ := txShow ok (pkI o.a 8) o.wb
    exact ⟨L', last, c, .of T (fun w d O R hO hQ => act6 d o ho hk hO hQ)⟩
  · obtain ⟨L', c, T⟩ := txGive ok (pkI o.a 8) (pkI o.b 8)
    exact ⟨L', last, c, .of T (fun w d O R hO hQ => act7 d o ho hk hO hQ)⟩
  · obtain ⟨L', c, T⟩ := txWrite ok (pkI o.a 8) (pkI o.b 20 - 5) (pkI o.c 14 - 4) (shortK o.s) (penK o.p)
    exact ⟨L', last, c, .of T (fun w d O R hO hQ => act8 d o ho hk hO hQ)⟩
  · obtain ⟨L', c, T⟩ := txWrite ok (pkI o.a 8) (pkI o.b 20 - 5) (pkI o.c 14 - 4) (shortK o.s) (penK o.p)
    exact ⟨L', last, c, .of T (fun w d O R hO hQ => act9 d o ho hk hO hQ)⟩
  · obtain ⟨L', c, T⟩ := txFill ok (pkI o.a 8) (pkI o.b 20 - 5) (pkI o.c 14 - 4) (pkI o.d 12) (pkI o.e 6) (penK o.p)
    exact ⟨L', last, c, .of T (fun w d O R hO hQ => act10 d o ho hk hO hQ)⟩
  · obtain ⟨L', c, T⟩ := txScroll ok (pkI o.a 8) (pkI o.b 9 - 4)
    exact ⟨L', last, c, .of T (fun w d O R hO hQ => act11 d o ho hk hO hQ)⟩
end Go.Proofs.YtjlfibhbfdckpaaGreatDoor

/- Flush: spots, goals, ways: the small functions of package paint. -/
namespace Go.Proofs.YtjlfibhbfdckpaaGreatDoor
open Go.RowKit
attribute [local go_sem ↓] Go.wp_at_zero Go.wp_at_succ
theorem below_n {B : Nat} {a b : World} (h : Below B a b) (n : Nat) : Below B a (b.drewN n) := ⟨h.os, h.tape, h.output, h.size, h.block⟩
abbrev Sp.agg (p : Sp) : Value := .agg #[.int .i64 p.x, .int .i64 p.y, .bool p.pend, .int .i64 p.pen.f, .int .i64 p.pen.b, .bool p.pen.bo, .bool p.pen.un, .bool p.pen.re]
abbrev Wy.agg (v : Wy) : Value := .agg #[.string ⟨v.b.toArray⟩, .int .i64 v.k, .int .i64 v.e.x, .int .i64 v.e.y, .bool v.e.pend, .int .i64 v.e.pen.f, .int .i64 v.e.pen.b, .bool v.e.pen.bo, .bool v.e.pen.un, .bool v.e.pen.re]
abbrev Gl.agg (g : Gl) : Value := .agg #[.int .i64 g.x, .int .i64 g.y, .int .i64 g.pen.f, .int .i64 g.pen.b, .bool g.pen.bo, .bool g.pen.un, .bool g.pen.re, .bool g.letter]
theorem qMoved (p : Sp) (x y : Int) (w : World) :
    Calls Tryz.prog 239 #[p.agg, .int .i64 x, .int .i64 y] w fun e w' => e = .returned (p.move x y).agg ∧ Below w.heap.size w w' := by
  go_enter Tryz.func239, Tryz.ntmps239
  go_wp2
  exact bodyPost_ret (v := (p.move x y).agg) (by simp [results, Tryz.results239, go_sem, Sp.move]) rfl ⟨rfl, ((Below.refl _ _).alloc (Nat.le_refl _) _).alloc (by simp) _⟩
theorem qInked (p : Sp) (n : Pn) (w : World) :
    Calls Tryz.prog 240 #[p.agg, n.agg] w fun e w' => e = .returned (p.ink n).agg ∧ Below w.heap.size w w' := by
  go_enter Tryz.func240, Tryz.ntmps240
  go_wp2
  exact bodyPost_ret (v := (p.ink n).agg) (by simp [results, Tryz.results240, go_sem, Sp.ink]) rfl ⟨rfl, (((Below.refl _ _).alloc (Nat.le_refl _) _).alloc (by simp) _).alloc (by simp; omega) _⟩
set_option maxHeartbeats 1000000 in
theorem qLanding (p : Sp) (w : World) (h0 : 0 ≤ p.y) (h1 : p.y ≤ 1000) :
    Calls Tryz.prog 238 #[p.agg] w fun e w' => e = .returned (.tuple #[.int .i64 p.lx, .int .i64 p.ly]) ∧ Below w.heap.size w w' := by
  obtain ⟨x, y, pd, n⟩ := p
  simp only at h0 h1
  cases pd with
  | true =>
    go_enter Tryz.func238, Tryz.ntmps238
    go_wp2
    go_quiet (fail)
    go_wp2
    go_ret2
    exact ⟨by simp [Sp.lx, Sp.ly], below_n ((Below.refl _ _).alloc (Nat.le_refl _) _) _⟩
  | false =>
    go_enter Tryz.func238, Tryz.ntmps238
    go_wp2
    go_quiet (fail)
    go_wp2
    go_ret2
    exact ⟨by simp [Sp.lx, Sp.ly], below_n ((Below.refl _ _).alloc (Nat.le_refl _) _) _⟩
end Go.Proofs.YtjlfibhbfdckpaaGreatDoor

/- Contracts of strings.Join and strconv.Itoa at this dump: laid by program (lay-plain). -/
namespace Go.Proofs
open Go.Shelf
def Tryz.lays156_ren : Go.Shelf.Ren := ⟨fun | 156 => 232 | 165 => 245 | 166 => 215 | 169 => 179 | 240 => 231 | 241 => 249 | 276 => 244 | 277 => 251 | n => n, fun | 31 => 229 | 9 => 9 | 3 => 3 | 4 => 4 | 0 => 0 | 20 => 20 | 72 => 192 | 76 => 226 | 70 => 190 | 37 => 177 | 75 => 225 | 127 => 212 | 164 => 274 | 5 => 5 | 80 => 56 | n => n, fun | n => n⟩
theorem Tryz.lays156 : Go.Proofs.Lays.n156 Tryz.prog Tryz.lays156_ren := {
  mixed := by kernel_rfl
  f156 := Tryz.func232.trans (congrArg some (by kernel_rfl))
  f165 := Tryz.func245.trans (congrArg some (by kernel_rfl))
  f166 := Tryz.func215.trans (congrArg some (by kernel_rfl))
  f169 := Tryz.func179.trans (congrArg some (by kernel_rfl))
  f240 := Tryz.func231.trans (congrArg some (by kernel_rfl))
  f241 := Tryz.func249.trans (congrArg some (by kernel_rfl))
  f276 := Tryz.func244.trans (congrArg some (by kernel_rfl))
  f277 := Tryz.func251.trans (congrArg some (by kernel_rfl))
  t0 := Tryz.underlying0
  a0 := Tryz.isAgg0
  z0 := Tryz.sizeOf0
  v0 := Tryz.zeroValue0
  t3 := Tryz.underlying3
  a3 := Tryz.isAgg3
  z3 := Tryz.sizeOf3
  v3 := Tryz.zeroValue3
  t4 := Tryz.underlying4
  a4 := Tryz.isAgg4
  z4 := Tryz.sizeOf4
  v4 := Tryz.zeroValue4
  t9 := Tryz.underlying9
  a9 := Tryz.isAgg9
  z9 := Tryz.sizeOf9
  v9 := Tryz.zeroValue9
  t20 := Tryz.underlying20
  a20 := Tryz.isAgg20
  z20 := Tryz.sizeOf20
  v20 := Tryz.zeroValue20
  t31 := Tryz.underlying229
  a31 := Tryz.isAgg229
  z31 := Tryz.sizeOf229
  v31 := Tryz.zeroValue229
  t37 := Tryz.underlying177
  a37 := Tryz.isAgg177
  z37 := Tryz.sizeOf177
  v37 := Tryz.zeroValue177
  t70 := Tryz.underlying190
  a70 := Tryz.isAgg190
  z70 := Tryz.sizeOf190
  v70 := Tryz.zeroValue190
  t72 := Tryz.underlying192
  a72 := Tryz.isAgg192
  z72 := Tryz.sizeOf192
  v72 := Tryz.zeroValue192
  t75 := Tryz.underlying225
  a75 := Tryz.isAgg225
  z75 := Tryz.sizeOf225
  v75 := Tryz.zeroValue225
  t76 := Tryz.underlying226
  a76 := Tryz.isAgg226
  z76 := Tryz.sizeOf226
  v76 := Tryz.zeroValue226
  t127 := Tryz.underlying212
  a127 := Tryz.isAgg212
  z127 := Tryz.sizeOf212
  v127 := Tryz.zeroValue212
  t164 := Tryz.underlying274
  a164 := Tryz.isAgg274
  z164 := Tryz.sizeOf274
  v164 := Tryz.zeroValue274 }
theorem Tryz.Builder_Extra_156 : Builder.Extra Tryz.prog Tryz.lays156_ren := {
  sizeBuilder := by kernel_rfl
  liesBuilder := by kernel_rfl
  t5 := Tryz.underlying5
  a5 := Tryz.isAgg5
  z5 := Tryz.sizeOf5
  v5 := Tryz.zeroValue5
  infoByte := by kernel_rfl
  cellsByte := by kernel_rfl
  sizeByte := by kernel_rfl
  neB5 := by decide }
open Go.RowKit in
/-- No element: the empty string; the world is as it was. (Whatever the slice's address and capacity: a nil slice too.) (LAID: no walk: one application.) -/
theorem Tryz.strings_Join_none (a : Option Addr) (c : Nat) (sep : ByteArray) (w : World) :
    Calls Tryz.prog 232 #[.slice a 0 c, .string sep] w fun e w' => e = .returned (.string ⟨#[]⟩) ∧ w' = w := Any.strings_Join_none Tryz.lays156 Tryz.Builder_Extra_156 a c sep w
open Go.RowKit in
/-- strings.Join: "Join concatenates the elements of its first argument to create a single string. The separator string sep is placed between elements in the resulting string.": HOWEVER MANY ELEMENTS. Below the heap's end the world is as it was. (LAID: no walk: one application.) -/
theorem Tryz.strings_Join (bk o c : Nat) (xs : List ByteArray) (sep : ByteArray) (w : World) (hcells : ∀ (j : Nat) x, xs[j]? = some x → w.cell? ⟨bk, o + j, none⟩ = some (.string x)) (hbk : bk < w.heap.size) (hN : xs.length ≤ 140737488355328) (hcap : xs.length ≤ c) (hlen : (Lib.join (xs.map (·.data.toList)) sep.data.toList).length ≤ 140737488355328) :
    Calls Tryz.prog 232 #[.slice (some ⟨bk, o, none⟩) xs.length c, .string sep] w fun e w' => e = .returned (.string ⟨(Lib.join (xs.map (·.data.toList)) sep.data.toList).toArray⟩) ∧ Below w.heap.size w w' := Any.strings_Join Tryz.lays156 Tryz.Builder_Extra_156 bk o c xs sep w hcells hbk hN hcap hlen
def Tryz.lays171_ren : Go.Shelf.Ren := ⟨fun | 171 => 236 | 243 => 248 | 246 => 250 | 283 => 252 | 284 => 253 | 285 => 254 | 286 => 255 | 129 => 257 | 317 => 256 | 318 => 258 | 319 => 259 | 320 => 260 | 337 => 261 | 338 => 262 | n => n, fun | 3 => 3 | 9 => 9 | 2 => 2 | 4 => 4 | 171 => 278 | 0 => 0 | 53 => 279 | 37 => 177 | 5 => 5 | 173 => 282 | 212 => 285 | 51 => 286 | 20 => 20 | 213 => 287 | 46 => 273 | 232 => 290 | 233 => 291 | n => n, fun | 17 => 3 | 18 => 4 | 19 => 5 | n => n⟩
theorem Tryz.lays171 : Go.Proofs.Lays.n171 Tryz.prog Tryz.lays171_ren := {
  mixed := by kernel_rfl
  f129 := Tryz.func257.trans (congrArg some (by kernel_rfl))
  f171 := Tryz.func236.trans (congrArg some (by kernel_rfl))
  f243 := Tryz.func248.trans (congrArg some (by kernel_rfl))
  f246 := Tryz.func250.trans (congrArg some (by kernel_rfl))
  f283 := Tryz.func252.trans (congrArg some (by kernel_rfl))
  f284 := Tryz.func253.trans (congrArg some (by kernel_rfl))
  f285 := Tryz.func254.trans (congrArg some (by kernel_rfl))
  f286 := Tryz.func255.trans (congrArg some (by kernel_rfl))
  f317 := Tryz.func256.trans (congrArg some (by kernel_rfl))
  f318 := Tryz.func258.trans (congrArg some (by kernel_rfl))
  f319 := Tryz.func259.trans (congrArg some (by kernel_rfl))
  f320 := Tryz.func260.trans (congrArg some (by kernel_rfl))
  f337 := Tryz.func261.trans (congrArg some (by kernel_rfl))
  f338 := Tryz.func262.trans (congrArg some (by kernel_rfl))
  t0 := Tryz.underlying0
  a0 := Tryz.isAgg0
  z0 := Tryz.sizeOf0
  v0 := Tryz.zeroValue0
  t2 := Tryz.underlying2
  a2 := Tryz.isAgg2
  z2 := Tryz.sizeOf2
  v2 := Tryz.zeroValue2
  t3 := Tryz.underlying3
  a3 := Tryz.isAgg3
  z3 := Tryz.sizeOf3
  v3 := Tryz.zeroValue3
  t4 := Tryz.underlying4
  a4 := Tryz.isAgg4
  z4 := Tryz.sizeOf4
  v4 := Tryz.zeroValue4
  t5 := Tryz.underlying5
  a5 := Tryz.isAgg5
  z5 := Tryz.sizeOf5
  v5 := Tryz.zeroValue5
  t9 := Tryz.underlying9
  a9 := Tryz.isAgg9
  z9 := Tryz.sizeOf9
  v9 := Tryz.zeroValue9
  t20 := Tryz.underlying20
  a20 := Tryz.isAgg20
  z20 := Tryz.sizeOf20
  v20 := Tryz.zeroValue20
  t37 := Tryz.underlying177
  a37 := Tryz.isAgg177
  z37 := Tryz.sizeOf177
  v37 := Tryz.zeroValue177
  t46 := Tryz.underlying273
  a46 := Tryz.isAgg273
  z46 := Tryz.sizeOf273
  v46 := Tryz.zeroValue273
  t51 := Tryz.underlying286
  a51 := Tryz.isAgg286
  z51 := Tryz.sizeOf286
  v51 := Tryz.zeroValue286
  t53 := Tryz.underlying279
  a53 := Tryz.isAgg279
  z53 := Tryz.sizeOf279
  v53 := Tryz.zeroValue279
  t171 := Tryz.underlying278
  a171 := Tryz.isAgg278
  z171 := Tryz.sizeOf278
  v171 := Tryz.zeroValue278
  t173 := Tryz.underlying282
  a173 := Tryz.isAgg282
  z173 := Tryz.sizeOf282
  v173 := Tryz.zeroValue282
  t212 := Tryz.underlying285
  a212 := Tryz.isAgg285
  z212 := Tryz.sizeOf285
  v212 := Tryz.zeroValue285
  t213 := Tryz.underlying287
  a213 := Tryz.isAgg287
  z213 := Tryz.sizeOf287
  t232 := Tryz.underlying290
  a232 := Tryz.isAgg290
  z232 := Tryz.sizeOf290
  v232 := Tryz.zeroValue290
  t233 := Tryz.underlying291
  a233 := Tryz.isAgg291
  z233 := Tryz.sizeOf291
  v233 := Tryz.zeroValue291
  g17 := by kernel_rfl
  g18 := by kernel_rfl
  g19 := by kernel_rfl }
open Go.RowKit Go.Sort Go.Lib in
/-- THE ROAD WITHOUT THE TABLE: 0 <= i < 100: NO PREMISE ON THE WORLD, AND THE WORLD IS AS IT WAS: a row that keeps its argument in that range need list no table ('laid = []'). (LAID: no walk: one application.) -/
theorem Tryz.strconv_Itoa_small (i : Nat) (hi : i < 100) (w : World) :
    Calls Tryz.prog 236 #[.int .i64 i] w fun e w' => e = .returned (.string ⟨(Lib.decDigits i).toArray⟩) ∧ w' = w := Any.strconv_Itoa_small Tryz.lays171 i hi w
end Go.Proofs
