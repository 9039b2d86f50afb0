/- The walks of the program's Width. -/
import Derived.Test.YtjlfibhbfdckpaaChecked
import Derived.Test.YtjlfibhbfdckpaaWdPlain
import Derived.WalkKit
import Derived.WalkSpells
import Derived.WalkLawsBesides
namespace Go.Proofs.Ytjlfibhbfdckpaa.Wd
open Go.RowKit
theorem within32 (n a b : Int) (w : World) :
    Calls Try.prog 55 #[.int .i32 n, .int .i32 a, .int .i32 b] w fun e w' => e = .returned (.bool (inB n a b)) ∧ w' = w := by
  by_cases h1 : a ≤ n <;> by_cases h2 : n ≤ b
  all_goals
    go_enter Try.func55, Try.ntmps55
    go_wp2
    go_ret
    exact ⟨by simp [inB, h1, h2], rfl⟩
theorem validRune (n : Int) (w : World) :
    Calls Try.prog 54 #[.int .i32 n] w fun e w' => e = .returned (.bool (validB n)) ∧ w' = w := by
  rcases valid_cases n with ⟨h1, h2, h3⟩ | ⟨h1, h2, h3⟩ | ⟨h1, h3⟩ | ⟨h1, h2, h3⟩ | ⟨h1, h3⟩
  all_goals
    rw [h3]; clear h3
    go_enter Try.func54, Try.ntmps54
    go_wp2
    go_ret
    exact ⟨by simp, rfl⟩
set_option maxHeartbeats 400000 in
theorem takesNothing (n : Int) (w : World) :
    Calls Try.prog 38 #[.int .i32 n] w fun e w' => e = .returned (.bool (zeroB n)) ∧ w' = w := by
  rcases zero_cases n with ⟨h1, h3⟩ | ⟨h1, h2, h3⟩ | ⟨h1, h2, h4, h3⟩ | ⟨h1, h2, h4, h5, h3⟩ | ⟨h1, h2, h4, h5, h6, h3⟩ | ⟨h1, h2, h4, h5, h6, h3⟩
  all_goals
    rw [h3]; clear h3
    go_enter Try.func38, Try.ntmps38
    go_wp2_with (first | (go_at_call 54; refine (validRune _ _).mono ?_; rintro e w' ⟨rfl, rfl⟩) | (go_at_call 55; refine (within32 _ _ _ _).mono ?_; rintro e w' ⟨rfl, rfl⟩))
    go_ret
    exact ⟨by simp [*], rfl⟩
set_option maxHeartbeats 1000000 in
theorem isWide (n : Int) (w : World) :
    Calls Try.prog 39 #[.int .i32 n] w fun e w' => e = .returned (.bool (wideB n)) ∧ w' = w := by
  rcases wide_cases n with ⟨h0, hz⟩ | ⟨h0, h1, hz⟩ | ⟨h0, h1, h2, hz⟩ | ⟨h0, h1, h2, h3, hz⟩ | ⟨h0, h1, h2, h3, h4, hz⟩ | ⟨h0, h1, h2, h3, h4, h5, hz⟩ | ⟨h0, h1, h2, h3, h4, h5, h6, hz⟩ | ⟨h0, h1, h2, h3, h4, h5, h6, h7, hz⟩ | ⟨h0, h1, h2, h3, h4, h5, h6, h7, h8, hz⟩ | ⟨h0, h1, h2, h3, h4, h5, h6, h7, h8, hz⟩
  all_goals
    rw [hz]; clear hz
    go_enter Try.func39, Try.ntmps39
    go_wp2_with (go_at_call 55; refine (within32 _ _ _ _).mono ?_; rintro e w' ⟨rfl, rfl⟩)
    go_ret
    exact ⟨by simp [*], rfl⟩
theorem lettersWidth (n : Int) (w : World) :
    Calls Try.prog 19 #[.int .i32 n] w fun e w' => e = .returned (.int .i64 (wd n)) ∧ w' = w := by
  cases h1 : zeroB n <;> cases h2 : wideB n
  all_goals
    go_enter Try.func19, Try.ntmps19
    go_wp2_with (first | (go_at_call 38; refine (takesNothing _ _).mono ?_; rintro e w' ⟨rfl, rfl⟩) | (go_at_call 39; refine (isWide _ _).mono ?_; rintro e w' ⟨rfl, rfl⟩))
    go_ret
    exact ⟨by simp [wd, h1, h2], rfl⟩
theorem casementWidth (n : Int) (w : World) :
    Calls Try.prog 5 #[.int .i32 n] w fun e w' => e = .returned (.int .i64 (wd n)) ∧ w' = w := by
  go_enter Try.func5, Try.ntmps5
  go_wp2_with (go_at_call 19; refine (lettersWidth _ _).mono ?_; rintro e w' ⟨rfl, rfl⟩)
  go_ret
  exact ⟨rfl, rfl⟩
theorem refBetween (n a b : Int) (w : World) :
    Calls Try.prog 20 #[.int .i64 n, .int .i64 a, .int .i64 b] w fun e w' => e = .returned (.bool (inB n a b)) ∧ w' = w := by
  by_cases h1 : a ≤ n <;> by_cases h2 : n ≤ b
  all_goals
    go_enter Try.func20, Try.ntmps20
    go_wp2
    go_ret
    exact ⟨by simp [inB, h1, h2], rfl⟩
end Go.Proofs.Ytjlfibhbfdckpaa.Wd
