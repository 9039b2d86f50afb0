/- Texts of the proof, one behind the other: UdB, UdC, UdD. -/
import Derived.Test.YtjlfibhbfdckpaaGreatDoorK20
/- The statements with the program's own screen: act, kind 2, 3, 5, 6, 7, 11. -/
namespace Go.Proofs.YtjlfibhbfdckpaaGreatDoor
open Go.RowKit
attribute [local go_sem ↓] Go.wp_at_zero Go.wp_at_succ
set_option maxRecDepth 10000 in
set_option maxHeartbeats 4000000 in
theorem act2 {w : World} (d : Option Addr) (o : Ac) (ho : o.In) (hk : pkI o.kd 12 = 2) {c : Int} {O : Nat → Prop} {R : World → World → Prop} (hO : ∀ i, O i → i < w.heap.size) (hQ : ∀ wA, Below w.heap.size w wA → Calls Tryz.prog 49 #[.pointer d, .int .i64 (pkI o.a 8)] wA fun e w' => e = .returned (.int .i64 c) ∧ Keep O wA w' ∧ R wA w') :
    Calls Tryz.prog 17 #[.pointer d, o.agg] w fun e w' => e = .returned (.int .i64 c) ∧ ∃ wA, Below w.heap.size w wA ∧ R wA w' := by
  have HQ : Hid (∀ wA, Below w.heap.size w wA → Calls Tryz.prog 49 #[.pointer d, .int .i64 (pkI o.a 8)] wA fun e w' => e = .returned (.int .i64 c) ∧ Keep O wA w' ∧ R wA w') := hQ
  have HO : Hid (∀ i, O i → i < w.heap.size) := hO
  have Ra : Hid (Rng o.a) := ho.a
  have Rb : Hid (Rng o.b) := ho.b
  have Rc : Hid (Rng o.c) := ho.c
  have Rd : Hid (Rng o.d) := ho.d
  have Re : Hid (Rng o.e) := ho.e
  have Rk : Hid (Rng o.kd) := ho.kd
  have lb20 := pkI_in o.b (n := 20) (by decide)
  have lc14 := pkI_in o.c (n := 14) (by decide)
  obtain ⟨lb20x, lb20y⟩ := lb20
  obtain ⟨lc14x, lc14y⟩ := lc14
  clear hQ hO ho
  obtain ⟨M, hM⟩ : ∃ M, w.heap.size = M := ⟨_, rfl⟩
  go_enter Tryz.func17, Tryz.ntmps17
  go_wp2_with fail
  have hA : ∃ wA, w.alloc (.cells o.arr 53) = wA ∧ wA.heap[M]? = some (.cells o.arr 53) ∧ Below w.heap.size w wA ∧ M < wA.heap.size := by
    subst hM
    exact ⟨_, rfl, heap_new _ _, (Below.refl _ _).alloc (Nat.le_refl _) _, by simp⟩
  obtain ⟨wA, hwA, bA, belA, zM⟩ := hA
  rw [hwA]
  have HB : Hid (Below w.heap.size w wA) := belA
  have nO : Hid (¬ O M) := fun q => by have := HO.out _ q; omega
  have k0 : wA.cell? ⟨M, 0, none⟩ = some (.int .i64 o.kd) := cell_of_block bA 0
  have k1 : wA.cell? ⟨M, 1, none⟩ = some (.int .i64 o.a) := cell_of_block bA 1
  have k2 : wA.cell? ⟨M, 2, none⟩ = some (.int .i64 o.b) := cell_of_block bA 2
  have k3 : wA.cell? ⟨M, 3, none⟩ = some (.int .i64 o.c) := cell_of_block bA 3
  have k4 : wA.cell? ⟨M, 4, none⟩ = some (.int .i64 o.d) := cell_of_block bA 4
  have k5 : wA.cell? ⟨M, 5, none⟩ = some (.int .i64 o.e) := cell_of_block bA 5
  have k6 : wA.cell? ⟨M, 6, none⟩ = some (.string o.s) := cell_of_block bA 6
  have k7 : wA.cell? ⟨M, 7, none⟩ = some (.int .i64 o.p.f) := cell_of_block bA 7
  have k8 : wA.cell? ⟨M, 8, none⟩ = some (.int .i64 o.p.b) := cell_of_block bA 8
  have k9 : wA.cell? ⟨M, 9, none⟩ = some (.bool o.p.bo) := cell_of_block bA 9
  have k10 : wA.cell? ⟨M, 10, none⟩ = some (.bool o.p.un) := cell_of_block bA 10
  have k11 : wA.cell? ⟨M, 11, none⟩ = some (.bool o.p.re) := cell_of_block bA 11
  have k12 : wA.cell? ⟨M, 12, none⟩ = some (.bool o.wb) := cell_of_block bA 12
  clear hwA bA belA HO hM
  go_at_call 16
  refine (kPkI _ _ _ (by decide) (by decide) (by first | exact Ra.out | exact Rb.out | exact Rc.out | exact Rd.out | exact Re.out | exact Rk.out)).mono ?_
  rintro e w' ⟨rfl, hw'⟩
  replace hw' := hw'.symm
  subst hw'
  go_wp2_with (first | (go_at_call 16; refine (kPkI _ _ _ (by decide) (by decide) (by first | exact Ra.out | exact Rb.out | exact Rc.out | exact Rd.out | exact Re.out | exact Rk.out)).mono ?_; rintro e w' ⟨rfl, hw'⟩; replace hw' := hw'.symm; subst hw'))
  go_at_call 49
  refine (HQ.out _ HB.out).mono ?_
  rintro e w9 ⟨rfl, K9, hR⟩
  have HR : Hid (∃ wA, Below w.heap.size w wA ∧ R wA w9) := ⟨_, HB.out, hR⟩
  clear K9 hR
  go_wp2_with fail
  go_ret
  exact ⟨rfl, HR.out⟩
set_option maxRecDepth 10000 in
set_option maxHeartbeats 4000000 in
theorem act3 {w : World} (d : Option Addr) (o : Ac) (ho : o.In) (hk : pkI o.kd 12 = 3) {c : Int} {O : Nat → Prop} {R : World → World → Prop} (hO : ∀ i, O i → i < w.heap.size) (hQ : ∀ wA, Below w.heap.size w wA → Calls Tryz.prog 50 #[.pointer d, .int .i64 (pkI o.a 8), .int .i64 (pkI o.b 20 - 5), .int .i64 (pkI o.c 14 - 4)] wA fun e w' => e = .returned (.int .i64 c) ∧ Keep O wA w' ∧ R wA w') :
    Calls Tryz.prog 17 #[.pointer d, o.agg] w fun e w' => e = .returned (.int .i64 c) ∧ ∃ wA, Below w.heap.size w wA ∧ R wA w' := by
  have HQ : Hid (∀ wA, Below w.heap.size w wA → Calls Tryz.prog 50 #[.pointer d, .int .i64 (pkI o.a 8), .int .i64 (pkI o.b 20 - 5), .int .i64 (pkI o.c 14 - 4)] wA fun e w' => e = .returned (.int .i64 c) ∧ Keep O wA w' ∧ R wA w') := hQ
  have HO : Hid (∀ i, O i → i < w.heap.size) := hO
  have Ra : Hid (Rng o.a) := ho.a
  have Rb : Hid (Rng o.b) := ho.b
  have Rc : Hid (Rng o.c) := ho.c
  have Rd : Hid (Rng o.d) := ho.d
  have Re : Hid (Rng o.e) := ho.e
  have Rk : Hid (Rng o.kd) := ho.kd
  have lb20 := pkI_in o.b (n := 20) (by decide)
  have lc14 := pkI_in o.c (n := 14) (by decide)
  obtain ⟨lb20x, lb20y⟩ := lb20
  obtain ⟨lc14x, lc14y⟩ := lc14
  clear hQ hO ho
  obtain ⟨M, hM⟩ : ∃ M, w.heap.size = M := ⟨_, rfl⟩
  go_enter Tryz.func17, Tryz.ntmps17
  go_wp2_with fail
  have hA : ∃ wA, w.alloc (.cells o.arr 53) = wA ∧ wA.heap[M]? = some (.cells o.arr 53) ∧ Below w.heap.size w wA ∧ M < wA.heap.size := by
    subst hM
    exact ⟨_, rfl, heap_new _ _, (Below.refl _ _).alloc (Nat.le_refl _) _, by simp⟩
  obtain ⟨wA, hwA, bA, belA, zM⟩ := hA
  rw [hwA]
  have HB : Hid (Below w.heap.size w wA) := belA
  have nO : Hid (¬ O M) := fun q => by have := HO.out _ q; omega
  have k0 : wA.cell? ⟨M, 0, none⟩ = some (.int .i64 o.kd) := cell_of_block bA 0
  have k1 : wA.cell? ⟨M, 1, none⟩ = some (.int .i64 o.a) := cell_of_block bA 1
  have k2 : wA.cell? ⟨M, 2, none⟩ = some (.int .i64 o.b) := cell_of_block bA 2
  have k3 : wA.cell? ⟨M, 3, none⟩ = some (.int .i64 o.c) := cell_of_block bA 3
  have k4 : wA.cell? ⟨M, 4, none⟩ = some (.int .i64 o.d) := cell_of_block bA 4
  have k5 : wA.cell? ⟨M, 5, none⟩ = some (.int .i64 o.e) := cell_of_block bA 5
  have k6 : wA.cell? ⟨M, 6, none⟩ = some (.string o.s) := cell_of_block bA 6
  have k7 : wA.cell? ⟨M, 7, none⟩ = some (.int .i64 o.p.f) := cell_of_block bA 7
  have k8 : wA.cell? ⟨M, 8, none⟩ = some (.int .i64 o.p.b) := cell_of_block bA 8
  have k9 : wA.cell? ⟨M, 9, none⟩ = some (.bool o.p.bo) := cell_of_block bA 9
  have k10 : wA.cell? ⟨M, 10, none⟩ = some (.bool o.p.un) := cell_of_block bA 10
  have k11 : wA.cell? ⟨M, 11, none⟩ = some (.bool o.p.re) := cell_of_block bA 11
  have k12 : wA.cell? ⟨M, 12, none⟩ = some (.bool o.wb) := cell_of_block bA 12
  clear hwA bA belA HO hM
  go_at_call 16
  refine (kPkI _ _ _ (by decide) (by decide) (by first | exact Ra.out | exact Rb.out | exact Rc.out | exact Rd.out | exact Re.out | exact Rk.out)).mono ?_
  rintro e w' ⟨rfl, hw'⟩
  replace hw' := hw'.symm
  subst hw'
  go_wp2_with (first | (go_at_call 16; refine (kPkI _ _ _ (by decide) (by decide) (by first | exact Ra.out | exact Rb.out | exact Rc.out | exact Rd.out | exact Re.out | exact Rk.out)).mono ?_; rintro e w' ⟨rfl, hw'⟩; replace hw' := hw'.symm; subst hw'))
  go_at_call 50
  refine (HQ.out _ HB.out).mono ?_
  rintro e w9 ⟨rfl, K9, hR⟩
  have HR : Hid (∃ wA, Below w.heap.size w wA ∧ R wA w9) := ⟨_, HB.out, hR⟩
  clear K9 hR
  go_wp2_with fail
  go_ret
  exact ⟨rfl, HR.out⟩
set_option maxRecDepth 10000 in
set_option maxHeartbeats 4000000 in
theorem act5 {w : World} (d : Option Addr) (o : Ac) (ho : o.In) (hk : pkI o.kd 12 = 5) {c : Int} {O : Nat → Prop} {R : World → World → Prop} (hO : ∀ i, O i → i < w.heap.size) (hQ : ∀ wA, Below w.heap.size w wA → Calls Tryz.prog 52 #[.pointer d, .int .i64 (pkI o.a 8), .bool o.wb] wA fun e w' => e = .returned (.int .i64 c) ∧ Keep O wA w' ∧ R wA w') :
    Calls Tryz.prog 17 #[.pointer d, o.agg] w fun e w' => e = .returned (.int .i64 c) ∧ ∃ wA, Below w.heap.size w wA ∧ R wA w' := by
  have HQ : Hid (∀ wA, Below w.heap.size w wA → Calls Tryz.prog 52 #[.pointer d, .int .i64 (pkI o.a 8), .bool o.wb] wA fun e w' => e = .returned (.int .i64 c) ∧ Keep O wA w' ∧ R wA w') := hQ
  have HO : Hid (∀ i, O i → i < w.heap.size) := hO
  have Ra : Hid (Rng o.a) := ho.a
  have Rb : Hid (Rng o.b) := ho.b
  have Rc : Hid (Rng o.c) := ho.c
  have Rd : Hid (Rng o.d) := ho.d
  have Re : Hid (Rng o.e) := ho.e
  have Rk : Hid (Rng o.kd) := ho.kd
  have lb20 := pkI_in o.b (n := 20) (by decide)
  have lc14 := pkI_in o.c (n := 14) (by decide)
  obtain ⟨lb20x, lb20y⟩ := lb20
  obtain ⟨lc14x, lc14y⟩ := lc14
  clear hQ hO ho
  obtain ⟨M, hM⟩ : ∃ M, w.heap.size = M := ⟨_, rfl⟩
  go_enter Tryz.func17, Tryz.ntmps17
  go_wp2_with fail
  have hA : ∃ wA, w.alloc (.cells o.arr 53) = wA ∧ wA.heap[M]? = some (.cells o.arr 53) ∧ Below w.heap.size w wA ∧ M < wA.heap.size := by
    subst hM
    exact ⟨_, rfl, heap_new _ _, (Below.refl _ _).alloc (Nat.le_refl _) _, by simp⟩
  obtain ⟨wA, hwA, bA, belA, zM⟩ := hA
  rw [hwA]
  have HB : Hid (Below w.heap.size w wA) := belA
  have nO : Hid (¬ O M) := fun q => by have := HO.out _ q; omega
  have k0 : wA.cell? ⟨M, 0, none⟩ = some (.int .i64 o.kd) := cell_of_block bA 0
  have k1 : wA.cell? ⟨M, 1, none⟩ = some (.int .i64 o.a) := cell_of_block bA 1
  have k2 : wA.cell? ⟨M, 2, none⟩ = some (.int .i64 o.b) := cell_of_block bA 2
  have k3 : wA.cell? ⟨M, 3, none⟩ = some (.int .i64 o.c) := cell_of_block bA 3
  have k4 : wA.cell? ⟨M, 4, none⟩ = some (.int .i64 o.d) := cell_of_block bA 4
  have k5 : wA.cell? ⟨M, 5, none⟩ = some (.int .i64 o.e) := cell_of_block bA 5
  have k6 : wA.cell? ⟨M, 6, none⟩ = some (.string o.s) := cell_of_block bA 6
  have k7 : wA.cell? ⟨M, 7, none⟩ = some (.int .i64 o.p.f) := cell_of_block bA 7
  have k8 : wA.cell? ⟨M, 8, none⟩ = some (.int .i64 o.p.b) := cell_of_block bA 8
  have k9 : wA.cell? ⟨M, 9, none⟩ = some (.bool o.p.bo) := cell_of_block bA 9
  have k10 : wA.cell? ⟨M, 10, none⟩ = some (.bool o.p.un) := cell_of_block bA 10
  have k11 : wA.cell? ⟨M, 11, none⟩ = some (.bool o.p.re) := cell_of_block bA 11
  have k12 : wA.cell? ⟨M, 12, none⟩ = some (.bool o.wb) := cell_of_block bA 12
  clear hwA bA belA HO hM
  go_at_call 16
  refine (kPkI _ _ _ (by decide) (by decide) (by first | exact Ra.out | exact Rb.out | exact Rc.out | exact Rd.out | exact Re.out | exact Rk.out)).mono ?_
  rintro e w' ⟨rfl, hw'⟩
  replace hw' := hw'.symm
  subst hw'
  go_wp2_with (first | (go_at_call 16; refine (kPkI _ _ _ (by decide) (by decide) (by first | exact Ra.out | exact Rb.out | exact Rc.out | exact Rd.out | exact Re.out | exact Rk.out)).mono ?_; rintro e w' ⟨rfl, hw'⟩; replace hw' := hw'.symm; subst hw'))
  go_at_call 52
  refine (HQ.out _ HB.out).mono ?_
  rintro e w9 ⟨rfl, K9, hR⟩
  have HR : Hid (∃ wA, Below w.heap.size w wA ∧ R wA w9) := ⟨_, HB.out, hR⟩
  clear K9 hR
  go_wp2_with fail
  go_ret
  exact ⟨rfl, HR.out⟩
set_option maxRecDepth 10000 in
set_option maxHeartbeats 4000000 in
theorem act6 {w : World} (d : Option Addr) (o : Ac) (ho : o.In) (hk : pkI o.kd 12 = 6) {c : Int} {O : Nat → Prop} {R : World → World → Prop} (hO : ∀ i, O i → i < w.heap.size) (hQ : ∀ wA, Below w.heap.size w wA → Calls Tryz.prog 53 #[.pointer d, .int .i64 (pkI o.a 8), .bool o.wb] wA fun e w' => e = .returned (.int .i64 c) ∧ Keep O wA w' ∧ R wA w') :
    Calls Tryz.prog 17 #[.pointer d, o.agg] w fun e w' => e = .returned (.int .i64 c) ∧ ∃ wA, Below w.heap.size w wA ∧ R wA w' := by
  have HQ : Hid (∀ wA, Below w.heap.size w wA → Calls Tryz.prog 53 #[.pointer d, .int .i64 (pkI o.a 8), .bool o.wb] wA fun e w' => e = .returned (.int .i64 c) ∧ Keep O wA w' ∧ R wA w') := hQ
  have HO : Hid (∀ i, O i → i < w.heap.size) := hO
  have Ra : Hid (Rng o.a) := ho.a
  have Rb : Hid (Rng o.b) := ho.b
  have Rc : Hid (Rng o.c) := ho.c
  have Rd : Hid (Rng o.d) := ho.d
  have Re : Hid (Rng o.e) := ho.e
  have Rk : Hid (Rng o.kd) := ho.kd
  have lb20 := pkI_in o.b (n := 20) (by decide)
  have lc14 := pkI_in o.c (n := 14) (by decide)
  obtain ⟨lb20x, lb20y⟩ := lb20
  obtain ⟨lc14x, lc14y⟩ := lc14
  clear hQ hO ho
  obtain ⟨M, hM⟩ : ∃ M, w.heap.size = M := ⟨_, rfl⟩
  go_enter Tryz.func17, Tryz.ntmps17
  go_wp2_with fail
  have hA : ∃ wA, w.alloc (.cells o.arr 53) = wA ∧ wA.heap[M]? = some (.cells o.arr 53) ∧ Below w.heap.size w wA ∧ M < wA.heap.size := by
    subst hM
    exact ⟨_, rfl, heap_new _ _, (Below.refl _ _).alloc (Nat.le_refl _) _, by simp⟩
  obtain ⟨wA, hwA, bA, belA, zM⟩ := hA
  rw [hwA]
  have HB : Hid (Below w.heap.size w wA) := belA
  have nO : Hid (¬ O M) := fun q => by have := HO.out _ q; omega
  have k0 : wA.cell? ⟨M, 0, none⟩ = some (.int .i64 o.kd) := cell_of_block bA 0
  have k1 : wA.cell? ⟨M, 1, none⟩ = some (.int .i64 o.a) := cell_of_block bA 1
  have k2 : wA.cell? ⟨M, 2, none⟩ = some (.int .i64 o.b) := cell_of_block bA 2
  have k3 : wA.cell? ⟨M, 3, none⟩ = some (.int .i64 o.c) := cell_of_block bA 3
  have k4 : wA.cell? ⟨M, 4, none⟩ = some (.int .i64 o.d) := cell_of_block bA 4
  have k5 : wA.cell? ⟨M, 5, none⟩ = some (.int .i64 o.e) := cell_of_block bA 5
  have k6 : wA.cell? ⟨M, 6, none⟩ = some (.string o.s) := cell_of_block bA 6
  have k7 : wA.cell? ⟨M, 7, none⟩ = some (.int .i64 o.p.f) := cell_of_block bA 7
  have k8 : wA.cell? ⟨M, 8, none⟩ = some (.int .i64 o.p.b) := cell_of_block bA 8
  have k9 : wA.cell? ⟨M, 9, none⟩ = some (.bool o.p.bo) := cell_of_block bA 9
  have k10 : wA.cell? ⟨M, 10, none⟩ = some (.bool o.p.un) := cell_of_block bA 10
  have k11 : wA.cell? ⟨M, 11, none⟩ = some (.bool o.p.re) := cell_of_block bA 11
  have k12 : wA.cell? ⟨M, 12, none⟩ = some (.bool o.wb) := cell_of_block bA 12
  clear hwA bA belA HO hM
  go_at_call 16
  refine (kPkI _ _ _ (by decide) (by decide) (by first | exact Ra.out | exact Rb.out | exact Rc.out | exact Rd.out | exact Re.out | exact Rk.out)).mono ?_
  rintro e w' ⟨rfl, hw'⟩
  replace hw' := hw'.symm
  subst hw'
  go_wp2_with (first | (go_at_call 16; refine (kPkI _ _ _ (by decide) (by decide) (by first | exact Ra.out | exact Rb.out | exact Rc.out | exact Rd.out | exact Re.out | exact Rk.out)).mono ?_; rintro e w' ⟨rfl, hw'⟩; replace hw' := hw'.symm; subst hw'))
  go_at_call 53
  refine (HQ.out _ HB.out).mono ?_
  rintro e w9 ⟨rfl, K9, hR⟩
  have HR : Hid (∃ wA, Below w.heap.size w wA ∧ R wA w9) := ⟨_, HB.out, hR⟩
  clear K9 hR
  go_wp2_with fail
  go_ret
  exact ⟨rfl, HR.out⟩
set_option maxRecDepth 10000 in
set_option maxHeartbeats 4000000 in
theorem act7 {w : World} (d : Option Addr) (o : Ac) (ho : o.In) (hk : pkI o.kd 12 = 7) {c : Int} {O : Nat → Prop} {R : World → World → Prop} (hO : ∀ i, O i → i < w.heap.size) (hQ : ∀ wA, Below w.heap.size w wA → Calls Tryz.prog 54 #[.pointer d, .int .i64 (pkI o.a 8), .int .i64 (pkI o.b 8)] wA fun e w' => e = .returned (.int .i64 c) ∧ Keep O wA w' ∧ R wA w') :
    Calls Tryz.prog 17 #[.pointer d, o.agg] w fun e w' => e = .returned (.int .i64 c) ∧ ∃ wA, Below w.heap.size w wA ∧ R wA w' := by
  have HQ : Hid (∀ wA, Below w.heap.size w wA → Calls Tryz.prog 54 #[.pointer d, .int .i64 (pkI o.a 8), .int .i64 (pkI o.b 8)] wA fun e w' => e = .returned (.int .i64 c) ∧ Keep O wA w' ∧ R wA w') := hQ
  have HO : Hid (∀ i, O i → i < w.heap.size) := hO
  have Ra : Hid (Rng o.a) := ho.a
  have Rb : Hid (Rng o.b) := ho.b
  have Rc : Hid (Rng o.c) := ho.c
  have Rd : Hid (Rng o.d) := ho.d
  have Re : Hid (Rng o.e) := ho.e
  have Rk : Hid (Rng o.kd) := ho.kd
  have lb20 := pkI_in o.b (n := 20) (by decide)
  have lc14 := pkI_in o.c (n := 14) (by decide)
  obtain ⟨lb20x, lb20y⟩ := lb20
  obtain ⟨lc14x, lc14y⟩ := lc14
  clear hQ hO ho
  obtain ⟨M, hM⟩ : ∃ M, w.heap.size = M := ⟨_, rfl⟩
  go_enter Tryz.func17, Tryz.ntmps17
  go_wp2_with fail
  have hA : ∃ wA, w.alloc (.cells o.arr 53) = wA ∧ wA.heap[M]? = some (.cells o.arr 53) ∧ Below w.heap.size w wA ∧ M < wA.heap.size := by
    subst hM
    exact ⟨_, rfl, heap_new _ _, (Below.refl _ _).alloc (Nat.le_refl _) _, by simp⟩
  obtain ⟨wA, hwA, bA, belA, zM⟩ := hA
  rw [hwA]
  have HB : Hid (Below w.heap.size w wA) := belA
  have nO : Hid (¬ O M) := fun q => by have := HO.out _ q; omega
  have k0 : wA.cell? ⟨M, 0, none⟩ = some (.int .i64 o.kd) := cell_of_block bA 0
  have k1 : wA.cell? ⟨M, 1, none⟩ = some (.int .i64 o.a) := cell_of_block bA 1
  have k2 : wA.cell? ⟨M, 2, none⟩ = some (.int .i64 o.b) := cell_of_block bA 2
  have k3 : wA.cell? ⟨M, 3, none⟩ = some (.int .i64 o.c) := cell_of_block bA 3
  have k4 : wA.cell? ⟨M, 4, none⟩ = some (.int .i64 o.d) := cell_of_block bA 4
  have k5 : wA.cell? ⟨M, 5, none⟩ = some (.int .i64 o.e) := cell_of_block bA 5
  have k6 : wA.cell? ⟨M, 6, none⟩ = some (.string o.s) := cell_of_block bA 6
  have k7 : wA.cell? ⟨M, 7, none⟩ = some (.int .i64 o.p.f) := cell_of_block bA 7
  have k8 : wA.cell? ⟨M, 8, none⟩ = some (.int .i64 o.p.b) := cell_of_block bA 8
  have k9 : wA.cell? ⟨M, 9, none⟩ = some (.bool o.p.bo) := cell_of_block bA 9
  have k10 : wA.cell? ⟨M, 10, none⟩ = some (.bool o.p.un) := cell_of_block bA 10
  have k11 : wA.cell? ⟨M, 11, none⟩ = some (.bool o.p.re) := cell_of_block bA 11
  have k12 : wA.cell? ⟨M, 12, none⟩ = some (.bool o.wb) := cell_of_block bA 12
  clear hwA bA belA HO hM
  go_at_call 16
  refine (kPkI _ _ _ (by decide) (by decide) (by first | exact Ra.out | exact Rb.out | exact Rc.out | exact Rd.out | exact Re.out | exact Rk.out)).mono ?_
  rintro e w' ⟨rfl, hw'⟩
  replace hw' := hw'.symm
  subst hw'
  go_wp2_with (first | (go_at_call 16; refine (kPkI _ _ _ (by decide) (by decide) (by first | exact Ra.out | exact Rb.out | exact Rc.out | exact Rd.out | exact Re.out | exact Rk.out)).mono ?_; rintro e w' ⟨rfl, hw'⟩; replace hw' := hw'.symm; subst hw'))
  go_at_call 54
  refine (HQ.out _ HB.out).mono ?_
  rintro e w9 ⟨rfl, K9, hR⟩
  have HR : Hid (∃ wA, Below w.heap.size w wA ∧ R wA w9) := ⟨_, HB.out, hR⟩
  clear K9 hR
  go_wp2_with fail
  go_ret
  exact ⟨rfl, HR.out⟩
set_option maxRecDepth 10000 in
set_option maxHeartbeats 4000000 in
theorem act11 {w : World} (d : Option Addr) (o : Ac) (ho : o.In) (hk : pkI o.kd 12 = 11) {c : Int} {O : Nat → Prop} {R : World → World → Prop} (hO : ∀ i, O i → i < w.heap.size) (hQ : ∀ wA, Below w.heap.size w wA → Calls Tryz.prog 35 #[.pointer d, .int .i64 (pkI o.a 8), .int .i64 (pkI o.b 9 - 4)] wA fun e w' => e = .returned (.int .i64 c) ∧ Keep O wA w' ∧ R wA w') :
    Calls Tryz.prog 17 #[.pointer d, o.agg] w fun e w' => e = .returned (.int .i64 c) ∧ ∃ wA, Below w.heap.size w wA ∧ R wA w' := by
  have HQ : Hid (∀ wA, Below w.heap.size w wA → Calls Tryz.prog 35 #[.pointer d, .int .i64 (pkI o.a 8), .int .i64 (pkI o.b 9 - 4)] wA fun e w' => e = .returned (.int .i64 c) ∧ Keep O wA w' ∧ R wA w') := hQ
  have HO : Hid (∀ i, O i → i < w.heap.size) := hO
  have Ra : Hid (Rng o.a) := ho.a
  have Rb : Hid (Rng o.b) := ho.b
  have Rc : Hid (Rng o.c) := ho.c
  have Rd : Hid (Rng o.d) := ho.d
  have Re : Hid (Rng o.e) := ho.e
  have Rk : Hid (Rng o.kd) := ho.kd
  have lb20 := pkI_in o.b (n := 20) (by decide)
  have lc14 := pkI_in o.c (n := 14) (by decide)
  have lb9 := pkI_in o.b (n := 9) (by decide)
  obtain ⟨lb20x, lb20y⟩ := lb20
  obtain ⟨lc14x, lc14y⟩ := lc14
  obtain ⟨lb9x, lb9y⟩ := lb9
  clear hQ hO ho
  obtain ⟨M, hM⟩ : ∃ M, w.heap.size = M := ⟨_, rfl⟩
  go_enter Tryz.func17, Tryz.ntmps17
  go_wp2_with fail
  have hA : ∃ wA, w.alloc (.cells o.arr 53) = wA ∧ wA.heap[M]? = some (.cells o.arr 53) ∧ Below w.heap.size w wA ∧ M < wA.heap.size := by
    subst hM
    exact ⟨_, rfl, heap_new _ _, (Below.refl _ _).alloc (Nat.le_refl _) _, by simp⟩
  obtain ⟨wA, hwA, bA, belA, zM⟩ := hA
  rw [hwA]
  have HB : Hid (Below w.heap.size w wA) := belA
  have nO : Hid (¬ O M) := fun q => by have := HO.out _ q; omega
  have k0 : wA.cell? ⟨M, 0, none⟩ = some (.int .i64 o.kd) := cell_of_block bA 0
  have k1 : wA.cell? ⟨M, 1, none⟩ = some (.int .i64 o.a) := cell_of_block bA 1
  have k2 : wA.cell? ⟨M, 2, none⟩ = some (.int .i64 o.b) := cell_of_block bA 2
  have k3 : wA.cell? ⟨M, 3, none⟩ = some (.int .i64 o.c) := cell_of_block bA 3
  have k4 : wA.cell? ⟨M, 4, none⟩ = some (.int .i64 o.d) := cell_of_block bA 4
  have k5 : wA.cell? ⟨M, 5, none⟩ = some (.int .i64 o.e) := cell_of_block bA 5
  have k6 : wA.cell? ⟨M, 6, none⟩ = some (.string o.s) := cell_of_block bA 6
  have k7 : wA.cell? ⟨M, 7, none⟩ = some (.int .i64 o.p.f) := cell_of_block bA 7
  have k8 : wA.cell? ⟨M, 8, none⟩ = some (.int .i64 o.p.b) := cell_of_block bA 8
  have k9 : wA.cell? ⟨M, 9, none⟩ = some (.bool o.p.bo) := cell_of_block bA 9
  have k10 : wA.cell? ⟨M, 10, none⟩ = some (.bool o.p.un) := cell_of_block bA 10
  have k11 : wA.cell? ⟨M, 11, none⟩ = some (.bool o.p.re) := cell_of_block bA 11
  have k12 : wA.cell? ⟨M, 12, none⟩ = some (.bool o.wb) := cell_of_block bA 12
  clear hwA bA belA HO hM
  go_at_call 16
  refine (kPkI _ _ _ (by decide) (by decide) (by first | exact Ra.out | exact Rb.out | exact Rc.out | exact Rd.out | exact Re.out | exact Rk.out)).mono ?_
  rintro e w' ⟨rfl, hw'⟩
  replace hw' := hw'.symm
  subst hw'
  go_wp2_with (first | (go_at_call 16; refine (kPkI _ _ _ (by decide) (by decide) (by first | exact Ra.out | exact Rb.out | exact Rc.out | exact Rd.out | exact Re.out | exact Rk.out)).mono ?_; rintro e w' ⟨rfl, hw'⟩; replace hw' := hw'.symm; subst hw'))
  go_at_call 35
  refine (HQ.out _ HB.out).mono ?_
  rintro e w9 ⟨rfl, K9, hR⟩
  have HR : Hid (∃ wA, Below w.heap.size w wA ∧ R wA w9) := ⟨_, HB.out, hR⟩
  clear K9 hR
  go_wp2_with fail
  go_ret
  exact ⟨rfl, HR.out⟩
end Go.Proofs.YtjlfibhbfdckpaaGreatDoor

/- The statements with the program's own screen: act, kind 0, 1. -/
namespace Go.Proofs.YtjlfibhbfdckpaaGreatDoor
open Go.RowKit
attribute [local go_sem ↓] Go.wp_at_zero Go.wp_at_succ
set_option maxRecDepth 10000 in
set_option maxHeartbeats 4000000 in
theorem act0 {w : World} (d : Option Addr) (o : Ac) (ho : o.In) (hk : pkI o.kd 12 = 0) {r c : Int} {O : Nat → Prop} {R : World → World → Prop} (hO : ∀ i, O i → i < w.heap.size) (hQ : ∀ wA, Below w.heap.size w wA → Calls Tryz.prog 48 #[.pointer d, .int .i64 (pkI o.a 8), .int .i64 (pkI o.b 20 - 5), .int .i64 (pkI o.c 14 - 4), .int .i64 (1 + pkI o.d 12), .int .i64 (1 + pkI o.e 6)] wA fun e w' => e = .returned (.tuple #[.int .i64 r, .int .i64 c]) ∧ Keep O wA w' ∧ R wA w') :
    Calls Tryz.prog 17 #[.pointer d, o.agg] w fun e w' => e = .returned (.int .i64 c) ∧ ∃ wA, Below w.heap.size w wA ∧ R wA w' := by
  have HQ : Hid (∀ wA, Below w.heap.size w wA → Calls Tryz.prog 48 #[.pointer d, .int .i64 (pkI o.a 8), .int .i64 (pkI o.b 20 - 5), .int .i64 (pkI o.c 14 - 4), .int .i64 (1 + pkI o.d 12), .int .i64 (1 + pkI o.e 6)] wA fun e w' => e = .returned (.tuple #[.int .i64 r, .int .i64 c]) ∧ Keep O wA w' ∧ R wA w') := hQ
  have HO : Hid (∀ i, O i → i < w.heap.size) := hO
  have Ra : Hid (Rng o.a) := ho.a
  have Rb : Hid (Rng o.b) := ho.b
  have Rc : Hid (Rng o.c) := ho.c
  have Rd : Hid (Rng o.d) := ho.d
  have Re : Hid (Rng o.e) := ho.e
  have Rk : Hid (Rng o.kd) := ho.kd
  have lb20 := pkI_in o.b (n := 20) (by decide)
  have lc14 := pkI_in o.c (n := 14) (by decide)
  have ld12 := pkI_in o.d (n := 12) (by decide)
  have le6 := pkI_in o.e (n := 6) (by decide)
  have eD : IntKind.i64.wrap (1 + pkI o.d 12) = 1 + pkI o.d 12 := wrap_id _ (by omega) (by omega)
  have eE : IntKind.i64.wrap (1 + pkI o.e 6) = 1 + pkI o.e 6 := wrap_id _ (by omega) (by omega)
  obtain ⟨lb20x, lb20y⟩ := lb20
  obtain ⟨lc14x, lc14y⟩ := lc14
  obtain ⟨ld12x, ld12y⟩ := ld12
  obtain ⟨le6x, le6y⟩ := le6
  clear hQ hO ho
  obtain ⟨M, hM⟩ : ∃ M, w.heap.size = M := ⟨_, rfl⟩
  go_enter Tryz.func17, Tryz.ntmps17
  go_wp2_with fail
  have hA : ∃ wA, w.alloc (.cells o.arr 53) = wA ∧ wA.heap[M]? = some (.cells o.arr 53) ∧ Below w.heap.size w wA ∧ M < wA.heap.size := by
    subst hM
    exact ⟨_, rfl, heap_new _ _, (Below.refl _ _).alloc (Nat.le_refl _) _, by simp⟩
  obtain ⟨wA, hwA, bA, belA, zM⟩ := hA
  rw [hwA]
  have HB : Hid (Below w.heap.size w wA) := belA
  have nO : Hid (¬ O M) := fun q => by have := HO.out _ q; omega
  have k0 : wA.cell? ⟨M, 0, none⟩ = some (.int .i64 o.kd) := cell_of_block bA 0
  have k1 : wA.cell? ⟨M, 1, none⟩ = some (.int .i64 o.a) := cell_of_block bA 1
  have k2 : wA.cell? ⟨M, 2, none⟩ = some (.int .i64 o.b) := cell_of_block bA 2
  have k3 : wA.cell? ⟨M, 3, none⟩ = some (.int .i64 o.c) := cell_of_block bA 3
  have k4 : wA.cell? ⟨M, 4, none⟩ = some (.int .i64 o.d) := cell_of_block bA 4
  have k5 : wA.cell? ⟨M, 5, none⟩ = some (.int .i64 o.e) := cell_of_block bA 5
  have k6 : wA.cell? ⟨M, 6, none⟩ = some (.string o.s) := cell_of_block bA 6
  have k7 : wA.cell? ⟨M, 7, none⟩ = some (.int .i64 o.p.f) := cell_of_block bA 7
  have k8 : wA.cell? ⟨M, 8, none⟩ = some (.int .i64 o.p.b) := cell_of_block bA 8
  have k9 : wA.cell? ⟨M, 9, none⟩ = some (.bool o.p.bo) := cell_of_block bA 9
  have k10 : wA.cell? ⟨M, 10, none⟩ = some (.bool o.p.un) := cell_of_block bA 10
  have k11 : wA.cell? ⟨M, 11, none⟩ = some (.bool o.p.re) := cell_of_block bA 11
  have k12 : wA.cell? ⟨M, 12, none⟩ = some (.bool o.wb) := cell_of_block bA 12
  clear hwA bA belA HO hM
  go_at_call 16
  refine (kPkI _ _ _ (by decide) (by decide) (by first | exact Ra.out | exact Rb.out | exact Rc.out | exact Rd.out | exact Re.out | exact Rk.out)).mono ?_
  rintro e w' ⟨rfl, hw'⟩
  replace hw' := hw'.symm
  subst hw'
  go_wp2_with (first | (go_at_call 16; refine (kPkI _ _ _ (by decide) (by decide) (by first | exact Ra.out | exact Rb.out | exact Rc.out | exact Rd.out | exact Re.out | exact Rk.out)).mono ?_; rintro e w' ⟨rfl, hw'⟩; replace hw' := hw'.symm; subst hw'))
  clear k0 k1 k2 k3 k6 k7 k8 k9 k10 k11 k12 hk
  go_region_held3 (fun w' => w'.cell? ⟨M, 4, none⟩ = some (.int .i64 o.d) ∧ w'.cell? ⟨M, 5, none⟩ = some (.int .i64 o.e)) (simp [*]) (first | (go_at_call 16; refine (kPkI _ _ _ (by decide) (by decide) (by first | exact Ra.out | exact Rb.out | exact Rc.out | exact Rd.out | exact Re.out | exact Rk.out)).mono ?_; rintro e w' ⟨rfl, hw'⟩; replace hw' := hw'.symm; subst hw') | (go_at_call 48; refine (HQ.out _ (by first | exact HB.out | exact HB.out.drew)).mono ?_; rintro e w9 ⟨rfl, K9, hR⟩; have e9 := cell_same (K9.block M zM nO.out); have HR : Hid (∃ wA, Below w.heap.size w wA ∧ R wA w9) := ⟨_, (by first | exact HB.out | exact HB.out.drew), hR⟩; clear K9 hR))
  all_goals
    go_wp2_with fail
    go_ret
    exact ⟨rfl, HR.out⟩
set_option maxRecDepth 10000 in
set_option maxHeartbeats 4000000 in
theorem act1 {w : World} (d : Option Addr) (o : Ac) (ho : o.In) (hk : pkI o.kd 12 = 1) {r c : Int} {O : Nat → Prop} {R : World → World → Prop} (hO : ∀ i, O i → i < w.heap.size) (hQ : ∀ wA, Below w.heap.size w wA → Calls Tryz.prog 48 #[.pointer d, .int .i64 (pkI o.a 8), .int .i64 (pkI o.b 20 - 5), .int .i64 (pkI o.c 14 - 4), .int .i64 (1 + pkI o.d 12), .int .i64 (1 + pkI o.e 6)] wA fun e w' => e = .returned (.tuple #[.int .i64 r, .int .i64 c]) ∧ Keep O wA w' ∧ R wA w') :
    Calls Tryz.prog 17 #[.pointer d, o.agg] w fun e w' => e = .returned (.int .i64 c) ∧ ∃ wA, Below w.heap.size w wA ∧ R wA w' := by
  have HQ : Hid (∀ wA, Below w.heap.size w wA → Calls Tryz.prog 48 #[.pointer d, .int .i64 (pkI o.a 8), .int .i64 (pkI o.b 20 - 5), .int .i64 (pkI o.c 14 - 4), .int .i64 (1 + pkI o.d 12), .int .i64 (1 + pkI o.e 6)] wA fun e w' => e = .returned (.tuple #[.int .i64 r, .int .i64 c]) ∧ Keep O wA w' ∧ R wA w') := hQ
  have HO : Hid (∀ i, O i → i < w.heap.size) := hO
  have Ra : Hid (Rng o.a) := ho.a
  have Rb : Hid (Rng o.b) := ho.b
  have Rc : Hid (Rng o.c) := ho.c
  have Rd : Hid (Rng o.d) := ho.d
  have Re : Hid (Rng o.e) := ho.e
  have Rk : Hid (Rng o.kd) := ho.kd
  have lb20 := pkI_in o.b (n := 20) (by decide)
  have lc14 := pkI_in o.c (n := 14) (by decide)
  have ld12 := pkI_in o.d (n := 12) (by decide)
  have le6 := pkI_in o.e (n := 6) (by decide)
  have eD : IntKind.i64.wrap (1 + pkI o.d 12) = 1 + pkI o.d 12 := wrap_id _ (by omega) (by omega)
  have eE : IntKind.i64.wrap (1 + pkI o.e 6) = 1 + pkI o.e 6 := wrap_id _ (by omega) (by omega)
  obtain ⟨lb20x, lb20y⟩ := lb20
  obtain ⟨lc14x, lc14y⟩ := lc14
  obtain ⟨ld12x, ld12y⟩ := ld12
  obtain ⟨le6x, le6y⟩ := le6
  clear hQ hO ho
  obtain ⟨M, hM⟩ : ∃ M, w.heap.size = M := ⟨_, rfl⟩
  go_enter Tryz.func17, Tryz.ntmps17
  go_wp2_with fail
  have hA : ∃ wA, w.alloc (.cells o.arr 53) = wA ∧ wA.heap[M]? = some (.cells o.arr 53) ∧ Below w.heap.size w wA ∧ M < wA.heap.size := by
    subst hM
    exact ⟨_, rfl, heap_new _ _, (Below.refl _ _).alloc (Nat.le_refl _) _, by simp⟩
  obtain ⟨wA, hwA, bA, belA, zM⟩ := hA
  rw [hwA]
  have HB : Hid (Below w.heap.size w wA) := belA
  have nO : Hid (¬ O M) := fun q => by have := HO.out _ q; omega
  have k0 : wA.cell? ⟨M, 0, none⟩ = some (.int .i64 o.kd) := cell_of_block bA 0
  have k1 : wA.cell? ⟨M, 1, none⟩ = some (.int .i64 o.a) := cell_of_block bA 1
  have k2 : wA.cell? ⟨M, 2, none⟩ = some (.int .i64 o.b) := cell_of_block bA 2
  have k3 : wA.cell? ⟨M, 3, none⟩ = some (.int .i64 o.c) := cell_of_block bA 3
  have k4 : wA.cell? ⟨M, 4, none⟩ = some (.int .i64 o.d) := cell_of_block bA 4
  have k5 : wA.cell? ⟨M, 5, none⟩ = some (.int .i64 o.e) := cell_of_block bA 5
  have k6 : wA.cell? ⟨M, 6, none⟩ = some (.string o.s) := cell_of_block bA 6
  have k7 : wA.cell? ⟨M, 7, none⟩ = some (.int .i64 o.p.f) := cell_of_block bA 7
  have k8 : wA.cell? ⟨M, 8, none⟩ = some (.int .i64 o.p.b) := cell_of_block bA 8
  have k9 : wA.cell? ⟨M, 9, none⟩ = some (.bool o.p.bo) := cell_of_block bA 9
  have k10 : wA.cell? ⟨M, 10, none⟩ = some (.bool o.p.un) := cell_of_block bA 10
  have k11 : wA.cell? ⟨M, 11, none⟩ = some (.bool o.p.re) := cell_of_block bA 11
  have k12 : wA.cell? ⟨M, 12, none⟩ = some (.bool o.wb) := cell_of_block bA 12
  clear hwA bA belA HO hM
  go_at_call 16
  refine (kPkI _ _ _ (by decide) (by decide) (by first | exact Ra.out | exact Rb.out | exact Rc.out | exact Rd.out | exact Re.out | exact Rk.out)).mono ?_
  rintro e w' ⟨rfl, hw'⟩
  replace hw' := hw'.symm
  subst hw'
  go_wp2_with (first | (go_at_call 16; refine (kPkI _ _ _ (by decide) (by decide) (by first | exact Ra.out | exact Rb.out | exact Rc.out | exact Rd.out | exact Re.out | exact Rk.out)).mono ?_; rintro e w' ⟨rfl, hw'⟩; replace hw' := hw'.symm; subst hw'))
  clear k0 k1 k2 k3 k6 k7 k8 k9 k10 k11 k12 hk
  go_region_held3 (fun w' => w'.cell? ⟨M, 4, none⟩ = some (.int .i64 o.d) ∧ w'.cell? ⟨M, 5, none⟩ = some (.int .i64 o.e)) (simp [*]) (first | (go_at_call 16; refine (kPkI _ _ _ (by decide) (by decide) (by first | exact Ra.out | exact Rb.out | exact Rc.out | exact Rd.out | exact Re.out | exact Rk.out)).mono ?_; rintro e w' ⟨rfl, hw'⟩; replace hw' := hw'.symm; subst hw') | (go_at_call 48; refine (HQ.out _ (by first | exact HB.out | exact HB.out.drew)).mono ?_; rintro e w9 ⟨rfl, K9, hR⟩; have e9 := cell_same (K9.block M zM nO.out); have HR : Hid (∃ wA, Below w.heap.size w wA ∧ R wA w9) := ⟨_, (by first | exact HB.out | exact HB.out.drew), hR⟩; clear K9 hR))
  all_goals
    go_wp2_with fail
    go_ret
    exact ⟨rfl, HR.out⟩
end Go.Proofs.YtjlfibhbfdckpaaGreatDoor

/- The statements with the program's own screen: act, kind 4. -/
namespace Go.Proofs.YtjlfibhbfdckpaaGreatDoor
open Go.RowKit
attribute [local go_sem ↓] Go.wp_at_zero Go.wp_at_succ
set_option maxRecDepth 10000 in
set_option maxHeartbeats 4000000 in
theorem act4 {w : World} (d : Option Addr) (o : Ac) (ho : o.In) (hk : pkI o.kd 12 = 4) {c : Int} {O : Nat → Prop} {R : World → World → Prop} (hO : ∀ i, O i → i < w.heap.size) (hQ : ∀ wA, Below w.heap.size w wA → Calls Tryz.prog 51 #[.pointer d, .int .i64 (pkI o.a 8), .int .i64 (1 + pkI o.d 12), .int .i64 (1 + pkI o.e 6)] wA fun e w' => e = .returned (.int .i64 c) ∧ Keep O wA w' ∧ R wA w') :
    Calls Tryz.prog 17 #[.pointer d, o.agg] w fun e w' => e = .returned (.int .i64 c) ∧ ∃ wA, Below w.heap.size w wA ∧ R wA w' := by
  have HQ : Hid (∀ wA, Below w.heap.size w wA → Calls Tryz.prog 51 #[.pointer d, .int .i64 (pkI o.a 8), .int .i64 (1 + pkI o.d 12), .int .i64 (1 + pkI o.e 6)] wA fun e w' => e = .returned (.int .i64 c) ∧ Keep O wA w' ∧ R wA w') := hQ
  have HO : Hid (∀ i, O i → i < w.heap.size) := hO
  have Ra : Hid (Rng o.a) := ho.a
  have Rb : Hid (Rng o.b) := ho.b
  have Rc : Hid (Rng o.c) := ho.c
  have Rd : Hid (Rng o.d) := ho.d
  have Re : Hid (Rng o.e) := ho.e
  have Rk : Hid (Rng o.kd) := ho.kd
  have lb20 := pkI_in o.b (n := 20) (by decide)
  have lc14 := pkI_in o.c (n := 14) (by decide)
  have ld12 := pkI_in o.d (n := 12) (by decide)
  have le6 := pkI_in o.e (n := 6) (by decide)
  have eD : IntKind.i64.wrap (1 + pkI o.d 12) = 1 + pkI o.d 12 := wrap_id _ (by omega) (by omega)
  have eE : IntKind.i64.wrap (1 + pkI o.e 6) = 1 + pkI o.e 6 := wrap_id _ (by omega) (by omega)
  obtain ⟨lb20x, lb20y⟩ := lb20
  obtain ⟨lc14x, lc14y⟩ := lc14
  obtain ⟨ld12x, ld12y⟩ := ld12
  obtain ⟨le6x, le6y⟩ := le6
  clear hQ hO ho
  obtain ⟨M, hM⟩ : ∃ M, w.heap.size = M := ⟨_, rfl⟩
  go_enter Tryz.func17, Tryz.ntmps17
  go_wp2_with fail
  have hA : ∃ wA, w.alloc (.cells o.arr 53) = wA ∧ wA.heap[M]? = some (.cells o.arr 53) ∧ Below w.heap.size w wA ∧ M < wA.heap.size := by
    subst hM
    exact ⟨_, rfl, heap_new _ _, (Below.refl _ _).alloc (Nat.le_refl _) _, by simp⟩
  obtain ⟨wA, hwA, bA, belA, zM⟩ := hA
  rw [hwA]
  have HB : Hid (Below w.heap.size w wA) := belA
  have nO : Hid (¬ O M) := fun q => by have := HO.out _ q; omega
  have k0 : wA.cell? ⟨M, 0, none⟩ = some (.int .i64 o.kd) := cell_of_block bA 0
  have k1 : wA.cell? ⟨M, 1, none⟩ = some (.int .i64 o.a) := cell_of_block bA 1
  have k2 : wA.cell? ⟨M, 2, none⟩ = some (.int .i64 o.b) := cell_of_block bA 2
  have k3 : wA.cell? ⟨M, 3, none⟩ = some (.int .i64 o.c) := cell_of_block bA 3
  have k4 : wA.cell? ⟨M, 4, none⟩ = some (.int .i64 o.d) := cell_of_block bA 4
  have k5 : wA.cell? ⟨M, 5, none⟩ = some (.int .i64 o.e) := cell_of_block bA 5
  have k6 : wA.cell? ⟨M, 6, none⟩ = some (.string o.s) := cell_of_block bA 6
  have k7 : wA.cell? ⟨M, 7, none⟩ = some (.int .i64 o.p.f) := cell_of_block bA 7
  have k8 : wA.cell? ⟨M, 8, none⟩ = some (.int .i64 o.p.b) := cell_of_block bA 8
  have k9 : wA.cell? ⟨M, 9, none⟩ = some (.bool o.p.bo) := cell_of_block bA 9
  have k10 : wA.cell? ⟨M, 10, none⟩ = some (.bool o.p.un) := cell_of_block bA 10
  have k11 : wA.cell? ⟨M, 11, none⟩ = some (.bool o.p.re) := cell_of_block bA 11
  have k12 : wA.cell? ⟨M, 12, none⟩ = some (.bool o.wb) := cell_of_block bA 12
  clear hwA bA belA HO hM
  go_at_call 16
  refine (kPkI _ _ _ (by decide) (by decide) (by first | exact Ra.out | exact Rb.out | exact Rc.out | exact Rd.out | exact Re.out | exact Rk.out)).mono ?_
  rintro e w' ⟨rfl, hw'⟩
  replace hw' := hw'.symm
  subst hw'
  go_wp2_with (first | (go_at_call 16; refine (kPkI _ _ _ (by decide) (by decide) (by first | exact Ra.out | exact Rb.out | exact Rc.out | exact Rd.out | exact Re.out | exact Rk.out)).mono ?_; rintro e w' ⟨rfl, hw'⟩; replace hw' := hw'.symm; subst hw'))
  clear k0 k1 k2 k3 k6 k7 k8 k9 k10 k11 k12 hk
  go_region_held3 (fun w' => w'.cell? ⟨M, 4, none⟩ = some (.int .i64 o.d) ∧ w'.cell? ⟨M, 5, none⟩ = some (.int .i64 o.e)) (simp [*]) (first | (go_at_call 16; refine (kPkI _ _ _ (by decide) (by decide) (by first | exact Ra.out | exact Rb.out | exact Rc.out | exact Rd.out | exact Re.out | exact Rk.out)).mono ?_; rintro e w' ⟨rfl, hw'⟩; replace hw' := hw'.symm; subst hw') | (go_at_call 51; refine (HQ.out _ (by first | exact HB.out | exact HB.out.drew)).mono ?_; rintro e w9 ⟨rfl, K9, hR⟩; have e9 := cell_same (K9.block M zM nO.out); have HR : Hid (∃ wA, Below w.heap.size w wA ∧ R wA w9) := ⟨_, (by first | exact HB.out | exact HB.out.drew), hR⟩; clear K9 hR))
  all_goals
    go_wp2_with fail
    go_ret
    exact ⟨rfl, HR.out⟩
end Go.Proofs.YtjlfibhbfdckpaaGreatDoor
