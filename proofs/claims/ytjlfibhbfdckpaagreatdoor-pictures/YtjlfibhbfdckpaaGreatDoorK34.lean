/- Texts of the proof, one behind the other: WdRef. -/
import Derived.Test.YtjlfibhbfdckpaaGreatDoorK05
import Derived.Below
import Derived.Deep.QuietTactic
import Derived.BigQuiet
import Derived.WalkSmall
/- The walk of the document's Width. -/
namespace Go.Proofs.YtjlfibhbfdckpaaGreatDoor.Wd
open Go.RowKit
def zT (j : Nat) : Int := [127, 159, 768, 879, 8203, 8207, 55296, 57343].getD j 0
def wT (j : Nat) : Int := [4352, 4447, 11904, 42191, 44032, 55203, 63744, 64255, 65072, 65103, 65280, 65376, 65504, 65510, 127744, 128591, 131072, 262141].getD j 0
theorem zT_at (k : Nat) (h : k < 4) : zeroL[k]? = some (zT (2 * k), zT (2 * k + 1)) := by
  rcases (by omega : k = 0 ∨ k = 1 ∨ k = 2 ∨ k = 3) with rfl | rfl | rfl | rfl <;> rfl
theorem wT_at (k : Nat) (h : k < 9) : wideL[k]? = some (wT (2 * k), wT (2 * k + 1)) := by
  rcases (by omega : k = 0 ∨ k = 1 ∨ k = 2 ∨ k = 3 ∨ k = 4 ∨ k = 5 ∨ k = 6 ∨ k = 7 ∨ k = 8) with rfl | rfl | rfl | rfl | rfl | rfl | rfl | rfl | rfl <;> rfl
def Tabs (w : World) (B : Nat) : Prop := (∀ j, j < 8 → w.cell? ⟨B, j, none⟩ = some (.int .i64 (zT j))) ∧ ∀ j, j < 18 → w.cell? ⟨B + 1, j, none⟩ = some (.int .i64 (wT j))
theorem tabs_made (w : World) : Tabs (((w.alloc (.cells #[.int .i64 127, .int .i64 159, .int .i64 768, .int .i64 879, .int .i64 8203, .int .i64 8207, .int .i64 55296, .int .i64 57343] 3)).alloc (.cells #[.int .i64 4352, .int .i64 4447, .int .i64 11904, .int .i64 42191, .int .i64 44032, .int .i64 55203, .int .i64 63744, .int .i64 64255, .int .i64 65072, .int .i64 65103, .int .i64 65280, .int .i64 65376, .int .i64 65504, .int .i64 65510, .int .i64 127744, .int .i64 128591, .int .i64 131072, .int .i64 262141] 3))) w.heap.size := by
  constructor
  · intro j hj
    rcases (by omega : j = 0 ∨ j = 1 ∨ j = 2 ∨ j = 3 ∨ j = 4 ∨ j = 5 ∨ j = 6 ∨ j = 7) with rfl | rfl | rfl | rfl | rfl | rfl | rfl | rfl <;> simp [zT, go_sem]
  · intro j hj
    rcases (by omega : j = 0 ∨ j = 1 ∨ j = 2 ∨ j = 3 ∨ j = 4 ∨ j = 5 ∨ j = 6 ∨ j = 7 ∨ j = 8 ∨ j = 9 ∨ j = 10 ∨ j = 11 ∨ j = 12 ∨ j = 13 ∨ j = 14 ∨ j = 15 ∨ j = 16 ∨ j = 17) with rfl | rfl | rfl | rfl | rfl | rfl | rfl | rfl | rfl | rfl | rfl | rfl | rfl | rfl | rfl | rfl | rfl | rfl <;> simp [wT, go_sem]
theorem Tabs.drewN {w : World} {B : Nat} (h : Tabs w B) (q : Nat) : Tabs (w.drewN q) B := h
set_option maxHeartbeats 8000000 in
theorem refWidth (n : Int) (w : World) (hn1 : -2147483648 ≤ n) (hn2 : n ≤ 2147483647) :
    Calls Tryz.prog 65 #[.int .i32 n] w fun e w' => e = .returned (.int .i64 (wd n)) ∧ Below w.heap.size w w' := by
  by_cases h1 : n < 32
  · have hz : wd n = 0 := by simp [wd, zero_any, h1]
    rw [hz]; clear hz
    go_enter Tryz.func65, Tryz.ntmps65
    go_wp2
    go_ret
    exact ⟨rfl, ((Below.refl _ _).alloc (Nat.le_refl _) _).alloc (by simp) _⟩
  by_cases h2 : 1114111 < n
  · have hz : wd n = 0 := by simp [wd, zero_any, h2]
    rw [hz]; clear hz
    go_enter Tryz.func65, Tryz.ntmps65
    go_wp2
    go_ret
    exact ⟨rfl, ((Below.refl _ _).alloc (Nat.le_refl _) _).alloc (by simp) _⟩
  have h1' : 32 ≤ n := by omega
  have h2' : n ≤ 1114111 := by omega
  clear h1 h2
  go_enter Tryz.func65, Tryz.ntmps65
  go_wp2_with fail
  go_loopw [6] (fun i w' => ∃ m : Nat, m ≤ 8 ∧ m % 2 = 0 ∧ i = .int .i64 m ∧ Hid (anyB n (zeroL.take (m / 2)) = false) ∧ Tabs w' w.heap.size ∧ Below w.heap.size w w') (fun i _ => 8 - (intOf i).toNat)
  case atStart => exact ⟨0, by omega, by omega, rfl, rfl, tabs_made w, ((Below.refl _ _).alloc (Nat.le_refl _) _).alloc (by simp) _⟩
  case round =>
    obtain ⟨m, hm, hm2, rfl, hany, hT, hB⟩ := hrel
    by_cases hk : m < 8
    · have hat := zT_at (m / 2) (by omega)
      rw [show 2 * (m / 2) = m from by omega] at hat
      have hc0 := hT.1 m (by omega)
      have hc1 := hT.1 (m + 1) (by omega)
      have hm' : (m : Int) + 1 < 8 := by omega
      have Hm2 : Hid (m % 2 = 0) := hm2
      clear hm2 hm
      have Hat : Hid (zeroL[m / 2]? = some (zT m, zT (m + 1))) := hat
      clear hat
      go_wp2_with fail
      go_quiet ((go_at_call 86; exact Calls.quiet_of_same (refBetween _ _ _ _)))
      go_wp2_with fail
      · have hw := wd_zero n (any_hit n zeroL (m / 2) _ _ Hat.out (by assumption))
        go_ret
        exact ⟨by rw [hw]; rfl, hB.trans ⟨rfl, rfl, rfl, Nat.le_refl _, fun _ _ => rfl⟩⟩
      · have hm2 := Hm2.out
        have hst := any_step n zeroL (m / 2) _ _ Hat.out hany.out (by assumption)
        rw [show m / 2 + 1 = (m + 2) / 2 from by omega] at hst
        exact ⟨⟨m + 2, by omega, by omega, by go_num, hst, hT.drewN _, hB.trans ⟨rfl, rfl, rfl, Nat.le_refl _, fun _ _ => rfl⟩⟩, by simp [intOf]; omega⟩
    · obtain rfl : m = 8 := by omega
      have Hz : Hid (anyB n zeroL = false) := hany
      clear hany hk hm hm2
      go_wp2_with fail
      go_loopw [8] (fun i w' => ∃ m : Nat, m ≤ 18 ∧ m % 2 = 0 ∧ i = .int .i64 m ∧ Hid (anyB n (wideL.take (m / 2)) = false) ∧ Tabs w' w.heap.size ∧ Below w.heap.size w w') (fun i _ => 18 - (intOf i).toNat)
      case atStart => exact ⟨0, by omega, by omega, rfl, rfl, hT, hB⟩
      case round =>
        clear hT hB
        obtain ⟨m, hm, hm2, rfl, hany, hT, hB⟩ := hrel
        by_cases hk : m < 18
        · have hat := wT_at (m / 2) (by omega)
          rw [show 2 * (m / 2) = m from by omega] at hat
          have hc0 := hT.2 m (by omega)
          have hc1 := hT.2 (m + 1) (by omega)
          have hm' : (m : Int) + 1 < 18 := by omega
          have Hm2 : Hid (m % 2 = 0) := hm2
          clear hm2 hm
          have Hat : Hid (wideL[m / 2]? = some (wT m, wT (m + 1))) := hat
          clear hat
          go_wp2_with fail
          go_quiet ((go_at_call 86; exact Calls.quiet_of_same (refBetween _ _ _ _)))
          go_wp2_with fail
          · have hw := wd_two n h1' h2' Hz.out (any_hit n wideL (m / 2) _ _ Hat.out (by assumption))
            go_ret
            exact ⟨by rw [hw]; rfl, hB.trans ⟨rfl, rfl, rfl, Nat.le_refl _, fun _ _ => rfl⟩⟩
          · have hm2 := Hm2.out
            have hst := any_step n wideL (m / 2) _ _ Hat.out hany.out (by assumption)
            rw [show m / 2 + 1 = (m + 2) / 2 from by omega] at hst
            exact ⟨⟨m + 2, by omega, by omega, by go_num, hst, hT.drewN _, hB.trans ⟨rfl, rfl, rfl, Nat.le_refl _, fun _ _ => rfl⟩⟩, by simp [intOf]; omega⟩
        · obtain rfl : m = 18 := by omega
          have hw : Hid (wd n = 1) := wd_one n h1' h2' Hz.out hany
          clear hany hk hm hm2
          go_wp2_with fail
          go_ret
          exact ⟨by rw [hw.out]; rfl, hB⟩
end Go.Proofs.YtjlfibhbfdckpaaGreatDoor.Wd
